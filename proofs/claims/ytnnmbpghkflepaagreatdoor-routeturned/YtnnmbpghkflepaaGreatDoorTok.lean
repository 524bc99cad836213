/-
  The trie of some patterns, in the patterns' own words.
-/
import Derived.Test.YtnnmbpghkflepaaGreatDoorFnd
namespace Go.Proofs.YtnnmbpghkflepaaGreatDoor
open Go.RowKit Go.PlainAid
set_option maxRecDepth 100000
/-- at T lies the trie of these patterns -/
def TrieOk (ls : List (List Sg)) (T : Nat) (w : World) : Prop :=
  ∃ B w0 es nd ro c, Tr B w0 T (idxR ls ls.length).length es nd ro c w ∧ w0.heap.size ≤ B ∧ Srt ls es ∧ es.length ≤ 1000
theorem TrieOk.call {ls : List (List Sg)} {T : Nat} {w w' : World} (h : TrieOk ls T w) (hb : Below w.heap.size w w') : TrieOk ls T w' := by
  obtain ⟨B, w0, es, nd, ro, c, h1, h2⟩ := h
  exact ⟨B, w0, es, nd, ro, c, h1.call hb, h2⟩
theorem trieNew (v : Value) (ls : List (List Sg)) (w : World) (hg : Gss w v ls) (h12 : ls.length ≤ 1000) :
    Calls Tryz.prog 30 #[v] w fun e w' => ∃ T, e = .returned (.pointer (some ⟨T, 0, none⟩)) ∧ TrieOk ls T w' ∧ Below w.heap.size w w' := by
  refine (new6 v ls w hg h12).mono ?_
  rintro e w' ⟨T, B, w0, es, nd, ro, c, ps, he, h1, h2, h3, h4, h5⟩
  refine ⟨T, he, ⟨B, w0, es, nd, ro, c, h1, h2, srt_of h4 h5, ?_⟩, h3⟩
  have h6 := congrArg List.length h5
  have h7 := h4.len
  have h8 := idx_len ls ls.length
  simp [getR] at h6 h7
  omega
theorem AllN.uniq {ls : List (List Sg)} {path : List ByteArray} {a b : List Nat} (h1 : AllN ls path a) (h2 : AllN ls path b) : a = b := by
  refine same_sorted (R := fun i k => cW ls i k < 0) (fun i k h1 h2 => ?_) h1.1 h2.1 fun x => ?_
  · have := (tcW ls).anti i k
    omega
  · rw [h1.2, h2.2]
theorem TrieOk.al {ls : List (List Sg)} {T : Nat} {w : World} (h : TrieOk ls T w) (path : List ByteArray) : ∃ al, AllN ls path al ∧ al.length ≤ 1000 := by
  obtain ⟨B, w0, es, nd, ro, c, h1, h2, h3, h4⟩ := h
  exact ⟨_, h3.all path, by rw [List.length_map]; exact Nat.le_trans (List.length_filter_le _ _) h4⟩
theorem al_lt {ls : List (List Sg)} {path : List ByteArray} {al : List Nat} (h : AllN ls path al) {k : Nat} (hk : k < al.length) : al.getD k 0 < ls.length := ((h.2 _).1 (nat_mem al k hk)).1
theorem al_fresh {ls : List (List Sg)} {path : List ByteArray} {al : List Nat} (h : AllN ls path al) {k : Nat} (hk : k < al.length) : al.getD k 0 ∉ al.take k := by
  intro hm
  obtain ⟨j, hj, e⟩ := List.getElem_of_mem hm
  rw [List.length_take] at hj
  have h1 := h.1
  rw [List.pairwise_iff_getElem] at h1
  have h2 := h1 j k (by omega) hk (by omega)
  have e1 : al[k] = al.getD k 0 := by simp [List.getD, hk]
  have e2 : al[j]'(by omega) = al.getD k 0 := by rw [← e]; simp
  rw [e1, e2, (tcW ls).refl] at h2
  omega
theorem al_next {ls : List (List Sg)} {path : List ByteArray} {al : List Nat} (h : AllN ls path al) {k : Nat} (hk : k + 1 < al.length) : ¬ 0 < cP (ls.getD (al.getD k 0) default) (ls.getD (al.getD (k + 1) 0) default) := by
  have h1 := h.1
  rw [List.pairwise_iff_getElem] at h1
  have h2 := h1 k (k + 1) (by omega) hk (by omega)
  have e1 : al[k] = al.getD k 0 := by simp [List.getD, show k < al.length by omega]
  have e2 : al[k + 1] = al.getD (k + 1) 0 := by simp [List.getD, hk]
  rw [e1, e2] at h2
  have := cW_le h2
  omega
/-- the first one's number, and what it tells -/
def aN (al : List Nat) : Int := match al with | [] => -1 | i :: _ => i
def aL (ls : List (List Sg)) (path : List ByteArray) (al : List Nat) : List Pr := match al with | [] => [] | i :: _ => mtL (ls.getD i default) path
theorem trieFind {ls : List (List Sg)} {T : Nat} {w : World} (h : TrieOk ls T w) (pv : Value) (path : List ByteArray) (hp : Ss w pv path) (hsz : ∀ s ∈ path, s.size ≤ 100000000) (hpl : path.length ≤ 1000) {al : List Nat} (ha : AllN ls path al) :
    Calls Tryz.prog 31 #[.pointer (some ⟨T, 0, none⟩), pv] w fun e w' => ∃ v, e = .returned (.tuple #[.int .i64 (aN al), v, .bool (!al.isEmpty)]) ∧ Ps w' v (aL ls path al) ∧ Below w.heap.size w w' := by
  obtain ⟨B, w0, es, nd, ro, c, h1, h2, h3, h4⟩ := h
  refine (find7 h1 h2 h3 h4 pv path hp hsz hpl).mono ?_
  rintro e w' ⟨v, he, hps, hb⟩
  have hal := (h3.all path).uniq ha
  have hl : ∀ x ∈ mat es path, x.l = ls.getD x.n default := fun x hx => by
    rw [mat, List.mem_filter] at hx
    exact (h3.1 x hx.1).2.1
  rcases hm : mat es path with _ | ⟨x, xs⟩
  · rw [hm] at hal he hps
    rw [← hal]
    exact ⟨v, he, hps, hb⟩
  · have hx := hl x (by rw [hm]; simp)
    rw [hm] at hal he hps
    rw [← hal]
    refine ⟨v, he, ?_, hb⟩
    have e1 : aL ls path (List.map En.n (x :: xs)) = fnL (x :: xs) path := by
      show mtL (ls.getD x.n default) path = mtL x.l path
      rw [hx]
    rw [e1]
    exact hps
end Go.Proofs.YtnnmbpghkflepaaGreatDoor
