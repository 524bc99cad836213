/-
  Texts as lists of numbers; encoding and decoding over them. No program.
-/
import Derived.Lib.Strings
import Derived.Lib.Bytes
import Derived.PlainAid
import Derived.Laws.Concat
namespace Go.Proofs.Ytolklphenllhpaa
open Go.PlainAid

/-- may it stand by itself? -/
def pl (c : Int) : Bool := decide ((97 ≤ c ∧ c ≤ 122) ∨ (65 ≤ c ∧ c ≤ 90) ∨ (48 ≤ c ∧ c ≤ 57) ∨ c = 45 ∨ c = 46 ∨ c = 95 ∨ c = 126)
/-- is it a hex digit? -/
def hd (c : Int) : Bool := decide ((48 ≤ c ∧ c ≤ 57) ∨ (65 ≤ c ∧ c ≤ 70) ∨ (97 ≤ c ∧ c ≤ 102))
/-- what it counts -/
def hv (c : Int) : Int := if 48 ≤ c ∧ c ≤ 57 then c - 48 else if 65 ≤ c ∧ c ≤ 70 then c - 55 else if 97 ≤ c ∧ c ≤ 102 then c - 87 else 0
theorem hv_bd (c : Int) : 0 ≤ hv c ∧ hv c ≤ 15 := by unfold hv; split <;> (try split) <;> (try split) <;> omega
theorem hvs {c x : Int} (h : (48 ≤ c ∧ c ≤ 57 ∧ x = c - 48) ∨ (65 ≤ c ∧ c ≤ 70 ∧ x = c - 55) ∨ (97 ≤ c ∧ c ≤ 102 ∧ x = c - 87)) : hv c = x ∧ hd c = true := by
  constructor
  · unfold hv; split <;> (try split) <;> (try split) <;> omega
  · unfold hd; exact decide_eq_true (by omega)
theorem hvn {c : Int} (h : ¬ (48 ≤ c ∧ c ≤ 57) ∧ ¬ (65 ≤ c ∧ c ≤ 70) ∧ ¬ (97 ≤ c ∧ c ≤ 102)) : hv c = 0 ∧ hd c = false := by
  constructor
  · unfold hv; split <;> (try split) <;> (try split) <;> omega
  · unfold hd; exact decide_eq_false (by omega)

/-- a text's bytes as numbers -/
def bs (s : ByteArray) : List Int := s.data.toList.map (fun b => (b.toNat : Int))
/-- the text of numbers -/
def st (l : List Int) : ByteArray := ⟨(l.map (fun n => UInt8.ofNat n.toNat)).toArray⟩
/-- all are bytes -/
def InR (l : List Int) : Prop := ∀ x ∈ l, 0 ≤ x ∧ x ≤ 255

theorem bs_len (s : ByteArray) : (bs s).length = s.size := by rw [Lib.size_eq]; simp [bs]
theorem bs_inR (s : ByteArray) : InR (bs s) := by
  intro x hx
  simp only [bs, List.mem_map] at hx
  obtain ⟨b, _, rfl⟩ := hx
  have := b.toNat_lt
  omega
theorem st_bs (s : ByteArray) : st (bs s) = s := by
  have : (bs s).map (fun n => UInt8.ofNat n.toNat) = s.data.toList := by
    simp [bs, List.map_map, Function.comp_def]
  rw [st, this]
theorem bs_st {l : List Int} (h : InR l) : bs (st l) = l := by
  simp only [bs, st, List.map_map]
  conv => rhs; rw [← List.map_id l]
  apply List.map_congr_left
  intro x hx
  obtain ⟨h0, h1⟩ := h x hx
  have h2 : x.toNat % 256 = x.toNat := by omega
  simp [UInt8.toNat_ofNat', h2]
  omega
theorem st_size (l : List Int) : (st l).size = l.length := by rw [Lib.size_eq]; simp [st]
theorem bs_inj {s t : ByteArray} (h : bs s = bs t) : s = t := by rw [← st_bs s, h, st_bs]
theorem bs_eq (s t : ByteArray) : (s.toList == t.toList) = decide (s = t) := by
  rw [Bool.eq_iff_iff]
  simp only [beq_iff_eq, decide_eq_true_eq]
  constructor
  · intro h
    rw [Lib.toList_data, Lib.toList_data] at h
    apply bs_inj
    simp [bs, h]
  · intro h; rw [h]
theorem bs_at (s : ByteArray) (k : Nat) : (bs s).getD k 0 = bt s k := by
  unfold bt
  split
  · rename_i h
    have h' : k < s.data.size := h
    have e : s.data[k]? = some s.data[k] := Array.getElem?_eq_getElem h'
    simp [bs, List.getD, e]
    rfl
  · rename_i h
    have h' : ¬ k < s.data.size := h
    simp [bs, List.getD, List.getElem?_eq_none (show s.data.toList.length ≤ k by simp; omega)]
theorem bs_extract (s : ByteArray) (a b : Nat) : bs (s.extract a b) = ((bs s).drop a).take (b - a) := by
  simp [bs, List.map_drop, List.map_take]
theorem bs_tail (s : ByteArray) (a : Nat) : bs (s.extract a s.size) = (bs s).drop a := by
  rw [bs_extract, List.take_of_length_le]
  rw [List.length_drop, bs_len]
  omega
theorem bs_append (s t : ByteArray) : bs (s ++ t) = bs s ++ bs t := by
  simp [bs]
theorem st_append (a b : List Int) : st (a ++ b) = st a ++ st b := by
  apply ByteArray.ext
  simp [st]

/-- a hex digit -/
def dg (n : Int) : Int := if n < 10 then n + 48 else n + 55
/-- a byte's code -/
def encI (c : Int) : List Int := if pl c then [c] else [37, dg (c / 16), dg (c % 16)]
/-- a text's code -/
def encL (l : List Int) : List Int := l.flatMap encI
/-- what a code says -/
def decL : List Int → Option (List Int)
  | [] => some []
  | [a] => if pl a then some [a] else none
  | [a, b] => if pl a then (decL [b]).map (a :: ·) else none
  | a :: b :: c :: r => if pl a then (decL (b :: c :: r)).map (a :: ·) else if a = 37 ∧ hd b = true ∧ hd c = true then (decL r).map ((hv b * 16 + hv c) :: ·) else none

theorem dec_pl (a : Int) (r : List Int) (h : pl a = true) : decL (a :: r) = (decL r).map (a :: ·) := by
  match r with
  | [] => simp [decL, h]
  | [b] => simp [decL, h]
  | b :: c :: r => rw [decL, if_pos h]
theorem dec_code (a b c : Int) (r : List Int) (h : pl a = false) (h1 : a = 37) (h2 : hd b = true) (h3 : hd c = true) : decL (a :: b :: c :: r) = (decL r).map ((hv b * 16 + hv c) :: ·) := by
  rw [decL, if_neg (by simp [h]), if_pos ⟨h1, h2, h3⟩]

theorem drop_cons {l : List Int} {k : Nat} (h : k < l.length) : l.drop k = l.getD k 0 :: l.drop (k + 1) := by
  rw [List.drop_eq_getElem_cons h]
  simp [List.getD, h]

theorem dec_step1 (l : List Int) (k : Nat) (hk : k < l.length) (h : pl (l.getD k 0) = true) : decL (l.drop k) = (decL (l.drop (k + 1))).map (l.getD k 0 :: ·) := by
  rw [drop_cons hk, dec_pl _ _ h]
theorem dec_step3 (l : List Int) (k : Nat) (hk : k + 2 < l.length) (h : pl (l.getD k 0) = false) (h0 : l.getD k 0 = 37) (h1 : hd (l.getD (k + 1) 0) = true) (h2 : hd (l.getD (k + 2) 0) = true) :
    decL (l.drop k) = (decL (l.drop (k + 3))).map ((hv (l.getD (k + 1) 0) * 16 + hv (l.getD (k + 2) 0)) :: ·) := by
  rw [drop_cons (show k < l.length by omega), drop_cons (show k + 1 < l.length by omega), drop_cons (show k + 1 + 1 < l.length by omega), dec_code _ _ _ _ h h0 h1 h2]
theorem dec_step0 (l : List Int) (k : Nat) (hk : k < l.length) (h : pl (l.getD k 0) = false) (hn : ¬ (l.getD k 0 = 37 ∧ k + 2 < l.length ∧ hd (l.getD (k + 1) 0) = true ∧ hd (l.getD (k + 2) 0) = true)) : decL (l.drop k) = none := by
  have hh : ¬ pl (l.getD k 0) = true := by rw [h]; decide
  rw [drop_cons hk]
  by_cases h1 : k + 1 < l.length
  · rw [drop_cons h1]
    by_cases h2 : k + 1 + 1 < l.length
    · rw [drop_cons h2, decL, if_neg hh, if_neg]
      rintro ⟨a, b, c⟩
      exact hn ⟨a, h2, b, c⟩
    · rw [List.drop_eq_nil_of_le (by omega), decL, if_neg hh]
  · rw [List.drop_eq_nil_of_le (by omega), decL, if_neg hh]

theorem dg_pl (n : Int) (h0 : 0 ≤ n) (h1 : n ≤ 15) : hv (dg n) = n ∧ hd (dg n) = true := by
  unfold dg
  apply hvs
  split <;> omega
theorem dg_bd (n : Int) (h0 : 0 ≤ n) (h1 : n ≤ 15) : 48 ≤ dg n ∧ dg n ≤ 70 := by
  unfold dg
  split <;> omega
theorem pl37 : pl 37 = false := by decide
theorem encI_inR (c : Int) (h : 0 ≤ c ∧ c ≤ 255) : InR (encI c) := by
  unfold encI
  have h1 := dg_bd (c / 16) (by omega) (by omega)
  have h2 := dg_bd (c % 16) (by omega) (by omega)
  split
  · intro x hx; simp at hx; omega
  · intro x hx; simp at hx; omega
theorem encL_inR {l : List Int} (h : InR l) : InR (encL l) := by
  intro x hx
  simp only [encL, List.mem_flatMap] at hx
  obtain ⟨c, hc, hx⟩ := hx
  exact encI_inR c (h c hc) x hx
theorem dec_encI (c : Int) (h : 0 ≤ c ∧ c ≤ 255) (r : List Int) : decL (encI c ++ r) = (decL r).map (c :: ·) := by
  unfold encI
  split
  · rename_i hp
    exact dec_pl c r hp
  · obtain ⟨a1, a2⟩ := dg_pl (c / 16) (by omega) (by omega)
    obtain ⟨b1, b2⟩ := dg_pl (c % 16) (by omega) (by omega)
    show decL (37 :: dg (c / 16) :: dg (c % 16) :: r) = _
    rw [dec_code _ _ _ _ pl37 rfl a2 b2, a1, b1]
    have : c / 16 * 16 + c % 16 = c := by omega
    rw [this]
theorem dec_enc {l : List Int} (h : InR l) : decL (encL l) = some l := by
  induction l with
  | nil => rfl
  | cons c l ih =>
    have e : encL (c :: l) = encI c ++ encL l := rfl
    rw [e, dec_encI c (h c (by simp)), ih (fun x hx => h x (by simp [hx]))]
    rfl
theorem encL_append (a b : List Int) : encL (a ++ b) = encL a ++ encL b := by simp [encL]
theorem encL_inj {a b : List Int} (ha : InR a) (hb : InR b) (h : encL a = encL b) : a = b := by
  have h1 := dec_enc ha
  rw [h, dec_enc hb] at h1
  exact (Option.some.inj h1).symm
theorem encI_len (c : Int) : (encI c).length ≤ 3 := by unfold encI; split <;> simp
theorem encL_len (l : List Int) : (encL l).length ≤ 3 * l.length := by
  induction l with
  | nil => simp [encL]
  | cons c l ih =>
    have e : encL (c :: l) = encI c ++ encL l := rfl
    have := encI_len c
    rw [e, List.length_append, List.length_cons]
    omega
/-- what is decoded is bytes, no more than there were -/
theorem dec_inR : ∀ (l m : List Int), InR l → decL l = some m → InR m ∧ m.length ≤ l.length := by
  intro l
  induction hn : l.length using Nat.strongRecOn generalizing l with
  | ind n ih =>
    intro m hl hd'
    match l, hn, hl, hd' with
    | [], _, _, hd' => simp [decL] at hd'; subst hd'; exact ⟨by simp [InR], by simp⟩
    | a :: r, hn, hl, hd' =>
      by_cases hp : pl a = true
      · rw [dec_pl a r hp] at hd'
        simp only [Option.map_eq_some_iff] at hd'
        obtain ⟨m', h1, rfl⟩ := hd'
        obtain ⟨i1, i2⟩ := ih r.length (by simp at hn; omega) r rfl m' (fun x hx => hl x (by simp [hx])) h1
        refine ⟨fun x hx => ?_, by simp; simp at hn; omega⟩
        simp only [List.mem_cons] at hx
        rcases hx with rfl | hx
        · exact hl _ (by simp)
        · exact i1 x hx
      · match r, hn, hl, hd' with
        | [], _, _, hd' => simp [decL, hp] at hd'
        | [b], _, _, hd' => simp [decL, hp] at hd'
        | b :: c :: r, hn, hl, hd' =>
          rw [decL, if_neg hp] at hd'
          split at hd'
          · simp only [Option.map_eq_some_iff] at hd'
            obtain ⟨m', h1, rfl⟩ := hd'
            obtain ⟨i1, i2⟩ := ih r.length (by simp at hn; omega) r rfl m' (fun x hx => hl x (by simp [hx])) h1
            refine ⟨fun x hx => ?_, by simp; simp at hn; omega⟩
            simp only [List.mem_cons] at hx
            rcases hx with rfl | hx
            · have := hv_bd b
              have := hv_bd c
              omega
            · exact i1 x hx
          · simp at hd'

/-- Encode, of texts -/
def encS (s : ByteArray) : ByteArray := st (encL (bs s))
/-- Decode, of texts -/
def decS (s : ByteArray) : ByteArray := st ((decL (bs s)).getD [])
def decB (s : ByteArray) : Bool := (decL (bs s)).isSome
end Go.Proofs.Ytolklphenllhpaa
