/-
  DomMoves' states: a row below 2, a row below 3. No walk.
-/
import Derived.Test.YtdbnhpghemlkbaaRuns
namespace Go.Proofs.Ytdbnhpghemlkbaa
open Go.RowKit Go.PlainAid Dm
set_option maxRecDepth 100000

structure Mv (s : St) (row row3 : List Nat) : Prop where
  inv : Inv s
  fit : Fit s
  fr : s.freed = []
  top : s.top = 3 + row.length + row3.length
  k1 : (s.nd 1).kids = [2, 3]
  k2 : (s.nd 2).kids = row
  k3 : (s.nd 3).kids = row3
  tg : (s.nd 2).tag ≠ ⟨#[]⟩ ∧ (s.nd 3).tag ≠ ⟨#[]⟩
  lo : ∀ j, (s.nd j).live = true → j ≠ 1 → (s.nd j).par ≠ 0
section
variable {s : St} {row row3 : List Nat}
theorem Mv.p2 (h : Mv s row row3) : (s.nd 2).par = 1 ∧ (s.nd 2).live = true := h.inv.down 1 2 (by rw [h.k1]; simp)
theorem Mv.p3 (h : Mv s row row3) : (s.nd 3).par = 1 ∧ (s.nd 3).live = true := h.inv.down 1 3 (by rw [h.k1]; simp)
theorem Mv.up (h : Mv s row row3) {b c : Nat} (hb : b = 2 ∨ b = 3) (h1 : c ≠ b) (h2 : c ≠ 1) : ¬ s.holds c b := by
  intro hh
  have hp : (s.nd b).par = 1 := by rcases hb with rfl | rfl; exact h.p2.1; exact h.p3.1
  rcases holds_step.1 hh with ⟨_, e⟩ | e
  · exact h1 e
  · rw [hp] at e
    rcases holds_step.1 e with ⟨_, e⟩ | e
    · exact h2 e
    · rw [h.inv.root.2.1] at e
      exact h.inv.not_holds_zero c e
theorem Mv.mem (h : Mv s row row3) {c : Nat} (hc : c ∈ row) : (s.nd c).par = 2 ∧ (s.nd c).live = true ∧ c ≠ 1 ∧ c ≠ 2 ∧ c ≠ 3 ∧ 1 ≤ c ∧ c ≤ s.top := by
  have h1 := h.inv.down 2 c (by rw [h.k2]; exact hc)
  have h2 := h.inv.live_pos h1.2
  refine ⟨h1.1, h1.2, fun e => ?_, fun e => ?_, fun e => ?_, h2.1, h2.2⟩
  · subst e; have := h.inv.root.2.1; omega
  · subst e; have := h.p2.1; omega
  · subst e; have := h.p3.1; omega
theorem mv_may (h : Mv s row row3) {b c : Nat} (hb : b = 2 ∨ b = 3) (hc : c ∈ row) : s.mayInsert b c := by
  obtain ⟨h1, h2, h3, h4, h5, h6, h7⟩ := h.mem hc
  refine ⟨?_, ?_, ?_, by omega, ?_⟩
  · rcases hb with rfl | rfl
    · unfold St.lives; rw [show ((2 : Nat) : Int).toNat = 2 from rfl, h.p2.2]; rfl
    · unfold St.lives; rw [show ((3 : Nat) : Int).toNat = 3 from rfl, h.p3.2]; rfl
  · unfold St.lives
    rw [Int.toNat_natCast, h2, decide_eq_true (by omega)]
    rfl
  · rw [Int.toNat_natCast]
    rcases hb with rfl | rfl
    · exact h.tg.1
    · exact h.tg.2
  · rw [Int.toNat_natCast, Int.toNat_natCast]
    exact h.up hb (by rcases hb with rfl | rfl <;> assumption) h3
/-- a new one put into the row -/
theorem mv_new (h : Mv s row row3) (key : Tx) (k : Nat) (hk : k ≤ row.length) :
    (s.make (newNd ⟨#[107]⟩ key ⟨#[]⟩)).mayInsert 2 ((s.top + 1 : Nat) : Int) ∧ s.fresh = s.top + 1 ∧ Mv ((s.make (newNd ⟨#[107]⟩ key ⟨#[]⟩)).insert 2 (s.top + 1) k) (insL row k (s.top + 1)) row3 := by
  have hf : s.fresh = s.top + 1 := by unfold St.fresh; rw [h.fr]
  have hfr1 : (s.make (newNd ⟨#[107]⟩ key ⟨#[]⟩)).freed = [] := by unfold St.make; rw [h.fr]; exact h.fr
  have htp1 : (s.make (newNd ⟨#[107]⟩ key ⟨#[]⟩)).top = s.top + 1 := by unfold St.make; rw [h.fr]
  have hn : ∀ j, (s.make (newNd ⟨#[107]⟩ key ⟨#[]⟩)).nd j = if j = s.top + 1 then newNd ⟨#[107]⟩ key ⟨#[]⟩ else s.nd j := by
    intro j; rw [make_nd, hf]; rfl
  have htop := h.top
  have hi1 : Inv (s.make (newNd ⟨#[107]⟩ key ⟨#[]⟩)) := inv_new_node h.inv _ _ _
  have hft1 : Fit (s.make (newNd ⟨#[107]⟩ key ⟨#[]⟩)) := fit_newNd h.fit _ _ _
  generalize s.make (newNd ⟨#[107]⟩ key ⟨#[]⟩) = s1 at *
  have n1 : s1.nd 1 = s.nd 1 := by rw [hn, if_neg (by omega)]
  have n2 : s1.nd 2 = s.nd 2 := by rw [hn, if_neg (by omega)]
  have n3 : s1.nd 3 = s.nd 3 := by rw [hn, if_neg (by omega)]
  have nn : s1.nd (s.top + 1) = newNd ⟨#[107]⟩ key ⟨#[]⟩ := by rw [hn, if_pos rfl]
  have hmay : s1.mayInsert 2 ((s.top + 1 : Nat) : Int) := by
    refine ⟨?_, ?_, ?_, by omega, ?_⟩
    · unfold St.lives; rw [show (2 : Int).toNat = 2 from rfl, n2, h.p2.2]; rfl
    · unfold St.lives; rw [Int.toNat_natCast, nn, decide_eq_true (by omega)]; rfl
    · rw [show (2 : Int).toNat = 2 from rfl, n2]; exact h.tg.1
    · rw [Int.toNat_natCast, show (2 : Int).toNat = 2 from rfl]
      intro hh
      rcases hi1.holds_cases hh with e | ⟨k, e, _⟩
      · omega
      · rw [nn] at e; cases e
  have hins := inv_insert hi1 hmay (k : Int)
  rw [show (2 : Int).toNat = 2 from rfl, Int.toNat_natCast] at hins
  have hl : s1.loosen (s.top + 1) = s1 := by unfold St.loosen; rw [nn]; rfl
  have hat : atN (k : Int) row.length = k := by unfold atN; rw [if_neg (by omega), if_neg (by omega), Int.toNat_natCast]
  have hI : s1.insert 2 (s.top + 1) k = s1.attach 2 (s.top + 1) k := by unfold St.insert; rw [hl, n2, h.k2, hat]
  refine ⟨hmay, hf, ⟨hins, fit_insert hft1 _ _ _, ?_, ?_, ?_, ?_, ?_, ?_, ?_⟩⟩
  · rw [hI]; exact hfr1
  · rw [hI, insL_len row k _ hk]; show s1.top = _; omega
  · rw [hI]; unfold St.attach; rw [St.put_ne _ _ (by omega), St.put_ne _ _ (by omega), n1]; exact h.k1
  · rw [hI]; unfold St.attach; rw [St.put_ne _ _ (by omega), St.put_same, n2]; simp only; rw [h.k2]
  · rw [hI]; unfold St.attach; rw [St.put_ne _ _ (by omega), St.put_ne _ _ (by omega), n3]; exact h.k3
  · rw [hI]; unfold St.attach; rw [St.put_ne _ _ (show 2 ≠ s.top + 1 by omega), St.put_same, St.put_ne _ _ (show 3 ≠ s.top + 1 by omega), St.put_ne _ _ (show 3 ≠ 2 by omega), n2, n3]; exact h.tg
  · intro j hj h1
    rw [hI] at hj ⊢
    unfold St.attach at hj ⊢
    by_cases e : j = s.top + 1
    · subst e
      rw [St.put_same]
      show 2 ≠ 0
      decide
    · rw [St.put_ne _ _ e] at hj ⊢
      by_cases e2 : j = 2
      · subst e2
        rw [St.put_same]
        show (s1.nd 2).par ≠ 0
        rw [n2, h.p2.1]; decide
      · rw [St.put_ne _ _ e2] at hj ⊢
        rw [hn, if_neg e] at hj ⊢
        exact h.lo j hj h1
/-- one of the row put elsewhere in it -/
theorem mv_move (h : Mv s row row3) {c : Nat} (hc : c ∈ row) (t : Nat) (ht : t ≤ (row.filter (fun k => decide (k ≠ c))).length) : Mv (s.insert 2 c t) (insL (row.filter (fun k => decide (k ≠ c))) t c) row3 := by
  have hm := mv_may h (Or.inl rfl) hc
  have hins := inv_insert h.inv hm (t : Int)
  rw [Int.toNat_natCast, Int.toNat_natCast] at hins
  obtain ⟨h1, h2, h3, h4, h5, h6, h7⟩ := h.mem hc
  have hp : (s.nd c).par ≠ 0 := by omega
  have F := h.inv.out_facts hp
  have hl : s.loosen c = s.out c := by unfold St.loosen; rw [if_neg hp]
  have hk2 : ((s.out c).nd 2).kids = row.filter (fun k => decide (k ≠ c)) := by rw [(F 2).2.2.2, if_pos h1.symm, h.k2]
  have hat : atN (t : Int) (row.filter (fun k => decide (k ≠ c))).length = t := by unfold atN; rw [if_neg (by omega), if_neg (by omega), Int.toNat_natCast]
  have hI : s.insert 2 c t = (s.out c).attach 2 c t := by unfold St.insert; rw [hl, hk2, hat]
  have hnd : row.Nodup := by rw [← h.k2]; exact h.inv.nodup 2
  have hlen : (row.filter (fun k => decide (k ≠ c))).length + 1 = row.length := by
    obtain ⟨q, hq, hqc⟩ := List.getElem_of_mem hc
    have hg : row.getD q 0 = c := by simp [List.getD, hq, hqc]
    have := take_drop_filter hnd hq
    rw [hg] at this
    rw [← this]
    simp
    omega
  refine ⟨hins, fit_insert h.fit _ _ _, ?_, ?_, ?_, ?_, ?_, ?_, ?_⟩
  · rw [hI]; exact h.fr
  · rw [hI, insL_len _ t _ ht]; show s.top = _; have := h.top; omega
  · rw [hI]; unfold St.attach; rw [St.put_ne _ _ (Ne.symm h3), St.put_ne _ _ (by omega), (F 1).2.2.2, if_neg (by omega)]; exact h.k1
  · rw [hI]; unfold St.attach; rw [St.put_ne _ _ (Ne.symm h4), St.put_same]; simp only; rw [hk2]
  · rw [hI]; unfold St.attach; rw [St.put_ne _ _ (Ne.symm h5), St.put_ne _ _ (by omega), (F 3).2.2.2, if_neg (by omega)]; exact h.k3
  · rw [hI]; unfold St.attach; rw [St.put_ne _ _ (Ne.symm h4), St.put_same, St.put_ne _ _ (Ne.symm h5), St.put_ne _ _ (show 3 ≠ 2 by omega)]
    refine ⟨?_, ?_⟩
    · show ((s.out c).nd 2).tag ≠ _
      rw [(F 2).2.1]; exact h.tg.1
    · rw [(F 3).2.1]; exact h.tg.2
  · intro j hj hj1
    rw [hI] at hj ⊢
    unfold St.attach at hj ⊢
    by_cases e : j = c
    · subst e; rw [St.put_same]; show 2 ≠ 0; decide
    · rw [St.put_ne _ _ e] at hj ⊢
      have key : ((s.out c).nd j).live = true → ((s.out c).nd j).par ≠ 0 := by
        rw [(F j).1, (F j).2.2.1, if_neg e]
        exact fun hh => h.lo j hh hj1
      by_cases e2 : j = 2
      · subst e2; rw [St.put_same] at hj ⊢; exact key hj
      · rw [St.put_ne _ _ e2] at hj ⊢; exact key hj
/-- the first of the row put to the other row's beginning -/
theorem mv_over {c : Nat} (h : Mv s (c :: row) row3) : Mv (s.insert 3 c (-5)) row (c :: row3) := by
  have hc : c ∈ c :: row := by simp
  have hm := mv_may h (Or.inr rfl) hc
  have hins := inv_insert h.inv hm (-5)
  rw [Int.toNat_natCast, Int.toNat_natCast] at hins
  obtain ⟨h1, h2, h3, h4, h5, h6, h7⟩ := h.mem hc
  have hp : (s.nd c).par ≠ 0 := by omega
  have F := h.inv.out_facts hp
  have hl : s.loosen c = s.out c := by unfold St.loosen; rw [if_neg hp]
  have hnd : (c :: row).Nodup := by rw [← h.k2]; exact h.inv.nodup 2
  have hfl : (c :: row).filter (fun k => decide (k ≠ c)) = row := by
    rw [List.filter_cons_of_neg (by simp)]
    refine List.filter_eq_self.2 (fun a ha => ?_)
    simp only [ne_eq, decide_eq_true_eq]
    intro e
    exact (List.nodup_cons.1 hnd).1 (e ▸ ha)
  have hk2 : ((s.out c).nd 2).kids = row := by rw [(F 2).2.2.2, if_pos h1.symm, h.k2, hfl]
  have hk3 : ((s.out c).nd 3).kids = row3 := by rw [(F 3).2.2.2, if_neg (by omega), h.k3]
  have hI : s.insert 3 c (-5) = (s.out c).attach 3 c 0 := by unfold St.insert; rw [hl]; rfl
  refine ⟨hins, fit_insert h.fit _ _ _, ?_, ?_, ?_, ?_, ?_, ?_, ?_⟩
  · rw [hI]; exact h.fr
  · rw [hI]; show s.top = _; have := h.top; simp only [List.length_cons] at this ⊢; omega
  · rw [hI]; unfold St.attach; rw [St.put_ne _ _ (Ne.symm h3), St.put_ne _ _ (by omega), (F 1).2.2.2, if_neg (by omega)]; exact h.k1
  · rw [hI]; unfold St.attach; rw [St.put_ne _ _ (Ne.symm h4), St.put_ne _ _ (by omega)]; exact hk2
  · rw [hI]; unfold St.attach; rw [St.put_ne _ _ (Ne.symm h5), St.put_same]; simp only; rw [hk3]; rfl
  · rw [hI]; unfold St.attach; rw [St.put_ne _ _ (Ne.symm h4), St.put_ne _ _ (show 2 ≠ 3 by omega), St.put_ne _ _ (Ne.symm h5), St.put_same]
    refine ⟨?_, ?_⟩
    · rw [(F 2).2.1]; exact h.tg.1
    · show ((s.out c).nd 3).tag ≠ _
      rw [(F 3).2.1]; exact h.tg.2
  · intro j hj hj1
    rw [hI] at hj ⊢
    unfold St.attach at hj ⊢
    by_cases e : j = c
    · subst e; rw [St.put_same]; show 3 ≠ 0; decide
    · rw [St.put_ne _ _ e] at hj ⊢
      have key : ((s.out c).nd j).live = true → ((s.out c).nd j).par ≠ 0 := by
        rw [(F j).1, (F j).2.2.1, if_neg e]
        exact fun hh => h.lo j hh hj1
      by_cases e2 : j = 3
      · subst e2; rw [St.put_same] at hj ⊢; exact key hj
      · rw [St.put_ne _ _ e2] at hj ⊢; exact key hj
theorem Mv.loose (h : Mv s row row3) : s.loose = [] := by
  refine List.eq_nil_iff_forall_not_mem.2 (fun j hj => ?_)
  have := h.inv.mem_loose.1 hj
  exact h.lo j this.1 this.2.2 this.2.1
end
/-! the beginning -/
def mo1 : St := St.new.make (newNd ⟨#[97]⟩ ⟨#[]⟩ ⟨#[]⟩)
def mo2 : St := mo1.make (newNd ⟨#[98]⟩ ⟨#[]⟩ ⟨#[]⟩)
def mo3 : St := mo2.insert 1 2 0
def mo4 : St := mo3.insert 1 3 9
theorem mo_v1 : Inv mo1 := inv_new_node inv_new _ _ _
theorem mo_v2 : Inv mo2 := inv_new_node mo_v1 _ _ _
theorem mo_m3 : mo2.mayInsert 1 2 := by
  refine ⟨rfl, rfl, ?_, by decide, ?_⟩
  · intro e
    have h : (⟨#[114, 111, 111, 116]⟩ : ByteArray) = ⟨#[]⟩ := e
    cases h
  rintro ⟨_, n, hn⟩
  cases n with
  | zero => cases hn
  | succ n =>
    have : mo2.anc n 0 = 2 := hn
    rw [mo_v2.anc_zero] at this
    cases this
theorem mo_v3 : Inv mo3 := inv_insert mo_v2 mo_m3 0
theorem mo_m4 : mo3.mayInsert 1 3 := by
  refine ⟨rfl, rfl, ?_, by decide, ?_⟩
  · intro e
    have h : (⟨#[114, 111, 111, 116]⟩ : ByteArray) = ⟨#[]⟩ := e
    cases h
  rintro ⟨_, n, hn⟩
  cases n with
  | zero => cases hn
  | succ n =>
    have : mo3.anc n 0 = 3 := hn
    rw [mo_v3.anc_zero] at this
    cases this
theorem mo_mv : Mv mo4 [] [] := by
  refine ⟨inv_insert mo_v3 mo_m4 9, fit_insert (fit_insert (fit_newNd (fit_newNd fit_new _ _ _) _ _ _) _ _ _) _ _ _, rfl, rfl, rfl, rfl, rfl, ⟨?_, ?_⟩, ?_⟩
  · intro e
    have h : (⟨#[97]⟩ : ByteArray) = ⟨#[]⟩ := e
    cases h
  · intro e
    have h : (⟨#[98]⟩ : ByteArray) = ⟨#[]⟩ := e
    cases h
  · intro j hj h1
    have hv : Inv mo4 := inv_insert mo_v3 mo_m4 9
    have := hv.live_pos hj
    rw [show mo4.top = 3 from rfl] at this
    rcases (show j = 2 ∨ j = 3 by omega) with rfl | rfl
    · show 1 ≠ 0
      decide
    · show 1 ≠ 0
      decide
end Go.Proofs.Ytdbnhpghemlkbaa
