/-
  Put together: Sml.
-/
import Derived.Test.YtnnmbpghkflepaaGreatDoorTlP28
namespace Go.Proofs.YtnnmbpghkflepaaGreatDoor
open Go.RowKit Go.PlainAid
set_option maxRecDepth 100000

theorem Gs.lenG {w : World} {v : Value} {l : List Sg} (h : Gs w v l) : ∃ A c, v = .slice A l.length c := by
  obtain ⟨A, cap, e, _⟩ := h
  exact ⟨_, _, e⟩
theorem Gs.capG {w : World} {v : Value} {l : List Sg} (h : Gs w v l) (A : Option Addr) (c : Nat) (e : v = .slice A l.length c) : l.length ≤ c := by
  obtain ⟨A', cap, e', h2, _⟩ := h
  rw [e] at e'
  cases e'
  exact h2
theorem gt_store {w : World} {v : Value} {l : List Sg} {g : Nat} {cur : Array Value} (h : Gt w v l) (hk : w.heap[g]? = some (.cells cur 59 (0, 0))) (o : Nat) (u : Value) : Gt (w.setCell ⟨g, o, none⟩ u) v l := by
  refine ⟨gt_set h hk o u, fun b o' n c e => ?_⟩
  obtain ⟨cur', fz, hb⟩ := h.2 b o' n c e
  have hne : b ≠ g := by
    intro e2
    subst e2
    rw [hk] at hb
    cases hb
  exact ⟨cur', fz, (Below.heap_setCell w ⟨g, o, none⟩ u b hne).trans hb⟩
/-- what small records are -/
def Fine (L : List Rc) : Prop := ∀ r ∈ L, r.l.length ≤ 9 ∧ r.n.size ≤ 9223372036854775807 ∧ ∀ g ∈ r.l, g.2.size ≤ 9223372036854775807

def SmPost (w : World) (e : Ending) (w' : World) : Prop := ∃ u L, e = .returned u ∧ OwnR w.heap.size w u L w' ∧ L.length ≤ 17 ∧ Fine L
set_option maxHeartbeats 12800000 in
theorem small6 (v : Value) (l : List Rc) (w : World) (h : Rs w v l) (hz : SzR l) :
    Calls Tryz.prog 6 #[v] w (SmPost w) := by
  have HS := Lib.hid h
  have HZ := Lib.hid hz
  obtain ⟨A, cap, rfl⟩ := h.len
  clear h hz
  go_enter Tryz.func6, Tryz.ntmps6
  go_wp2_with fail
  go_loopw [3, 4] (fun s3 s4 wr => ∃ (k : Nat) (L : List Rc), k ≤ l.length ∧ k ≤ 17 ∧ s4 = .int .i64 k ∧ Hid (OwnR w.heap.size w s3 L wr) ∧ L.length = k ∧ Hid (Fine L)) (fun _ s4 _ => 17 - (intOf s4).toNat)
  case atStart => exact ⟨0, [], Nat.zero_le _, by omega, rfl, nilR _ _ _ (Below.refl _ _) (Nat.le_refl _), rfl, fun r hr => by simp at hr⟩
  case round =>
    obtain ⟨k, L, hk, hk17, rfl, HO, HL, HFi⟩ := hrel
    have HB := Lib.hid HO.out.2.1
    obtain ⟨A3, n3, c3, h3⟩ := HO.out.shape
    subst h3
    by_cases hlt : k < l.length
    · have d0 : (k : Int) < (l.length : Int) := by omega
      by_cases h17 : k < 17
      · have d1 : (k : Int) < 17 := by omega
        obtain ⟨x, o, rfl, hat, hgs⟩ := (HS.out.call HB.out).at k hlt
        obtain ⟨g0, g1, g2, g3, g4, g5, g6, g7⟩ := hat
        have HZ7 := Lib.hid (HZ.out _ (getD_mem l k hlt))
        generalize l.getD k default = r at *
        obtain ⟨A7, c7, h7⟩ := hgs.lenG
        have hcap := hgs.capG A7 c7 h7
        rw [h7] at g2 hgs
        have GS := Lib.hid hgs
        have hcl : (r.l.length : Int) ≤ (c7 : Int) := by omega
        have HX := Lib.hid (blk_new wr (.cells #[.string r.n, .int .i64 r.p, .slice A7 r.l.length c7, .int .i64 r.c, .bool r.k, .int .i64 r.rk, .int .i64 r.rf, .string r.rt] 59 (0, 0)))
        have HW1 := Lib.hid ((Below.refl wr.heap.size wr).alloc (Nat.le_refl _) (.cells #[.string r.n, .int .i64 r.p, .slice A7 r.l.length c7, .int .i64 r.c, .bool r.k, .int .i64 r.rk, .int .i64 r.rf, .string r.rt] 59 (0, 0)))
        have HBS := Lib.hid HO.out.2.2.1
        have hs1 : (wr.alloc (.cells #[.string r.n, .int .i64 r.p, .slice A7 r.l.length c7, .int .i64 r.c, .bool r.k, .int .i64 r.rk, .int .i64 r.rf, .string r.rt] 59 (0, 0))).heap.size = wr.heap.size + 1 := by simp
        clear hgs
        have hm1 : (min (r.l.length : Int) 9).toNat ≤ r.l.length := by omega
        have hm2 : (min (r.l.length : Int) 9).toNat ≤ 9 := by omega
        go_upto_region 6 with fail
        generalize wr.alloc (.cells #[.string r.n, .int .i64 r.p, .slice A7 r.l.length c7, .int .i64 r.c, .bool r.k, .int .i64 r.rk, .int .i64 r.rf, .string r.rt] 59 (0, 0)) = w1 at *
        have E1 := Lib.hid (empG w1.heap.size w1 w1 (Below.refl _ _) (Nat.le_refl _))
        rw [hs1] at E1
        have q2 : (w1.alloc (.cells #[] 49 (0, 0))).cell? ⟨wr.heap.size, 2, none⟩ = some (.slice A7 r.l.length c7) := by rw [blk_cell (blk_alloc HX.out _)]; rfl
        have GS1 : Hid (Gs (w1.alloc (.cells #[] 49 (0, 0))) (.slice A7 (min (r.l.length : Int) 9).toNat c7) (r.l.take (min (r.l.length : Int) 9).toNat)) := ((GS.out.call HW1.out).call ((Below.refl _ _).alloc (Nat.le_refl _) _)).take _ hm1
        have HM2 := Lib.hid hm2
        clear hm1 hm2
        go_upto_region 7 with (first | (at_builtin; refine wpList_catG (w := w1.alloc (.cells #[] 49 (0, 0))) rfl (.tmp 20) (.tmp 27) rfl (wr.heap.size + 1) w1 _ [] rfl E1.out (by simp) _ (r.l.take (min (r.l.length : Int) 9).toNat) rfl (by rw [List.length_take]; have := HM2.out; omega) GS1.out ?_; intro v8 w8 h8 hg8; rw [List.nil_append] at h8; have H8 := Lib.hid h8; obtain ⟨A8, n8, c8, e8⟩ := h8.gs.shape; subst e8; have R8 := Lib.hid ((h8.2.1.block wr.heap.size (Nat.lt_succ_self _)).trans HX.out); have z8 : w8.frozen? ⟨wr.heap.size, 2, none⟩ = false := blk_frozen ((h8.2.1.block wr.heap.size (Nat.lt_succ_self _)).trans HX.out) _; have y8 : w8.cell? ⟨wr.heap.size, 2, none⟩ = some (.slice A7 r.l.length c7) := (by rw [blk_cell R8.out]; rfl); clear h8 hg8))
        have R9 := Lib.hid (blk_setCell R8.out 2 (.slice A8 n8 c8))
        have G9 : Hid (Gt (w8.setCell ⟨wr.heap.size, 2, none⟩ (.slice A8 n8 c8)) (.slice A8 n8 c8) (r.l.take (min (r.l.length : Int) 9).toNat)) := gt_store H8.out.gt R8.out _ _
        have B9 : Hid (Below wr.heap.size wr (w8.setCell ⟨wr.heap.size, 2, none⟩ (.slice A8 n8 c8))) := (HW1.out.trans (H8.out.2.1.mono (Nat.le_succ _))).setCell (Nat.le_refl _) _
        generalize w8.setCell ⟨wr.heap.size, 2, none⟩ (.slice A8 n8 c8) = w9 at *
        clear E1 GS1 H8 z8 y8 q2 g0 g1 g2 g3 g4 g5 g6 g7
        have t0 : w9.cell? ⟨wr.heap.size, 0, none⟩ = some (.string r.n) := by rw [blk_cell R9.out]; rfl
        have t1 : w9.cell? ⟨wr.heap.size, 1, none⟩ = some (.int .i64 r.p) := by rw [blk_cell R9.out]; rfl
        have t2 : w9.cell? ⟨wr.heap.size, 2, none⟩ = some (.slice A8 n8 c8) := by rw [blk_cell R9.out]; rfl
        have t3 : w9.cell? ⟨wr.heap.size, 3, none⟩ = some (.int .i64 r.c) := by rw [blk_cell R9.out]; rfl
        have t4 : w9.cell? ⟨wr.heap.size, 4, none⟩ = some (.bool r.k) := by rw [blk_cell R9.out]; rfl
        have t5 : w9.cell? ⟨wr.heap.size, 5, none⟩ = some (.int .i64 r.rk) := by rw [blk_cell R9.out]; rfl
        have t6 : w9.cell? ⟨wr.heap.size, 6, none⟩ = some (.int .i64 r.rf) := by rw [blk_cell R9.out]; rfl
        have t7 : w9.cell? ⟨wr.heap.size, 7, none⟩ = some (.string r.rt) := by rw [blk_cell R9.out]; rfl
        have HO9 := Lib.hid (HO.out.call B9.out)
        have OX := Lib.hid (HO9.out.alloc (.cells #[.string r.n, .int .i64 r.p, .slice A8 n8 c8, .int .i64 r.c, .bool r.k, .int .i64 r.rk, .int .i64 r.rf, .string r.rt] 59 (0, 0)))
        have GX : Hid (Gt (w9.alloc (.cells #[.string r.n, .int .i64 r.p, .slice A8 n8 c8, .int .i64 r.c, .bool r.k, .int .i64 r.rk, .int .i64 r.rf, .string r.rt] 59 (0, 0))) (.slice A8 n8 c8) (r.l.take (min (r.l.length : Int) 9).toNat)) := G9.out.call ((Below.refl _ _).alloc (Nat.le_refl _) _)
        go_wp2_with (first
          | (at_builtin; refine wpList_appR rfl (.tmp 30) (.tmp 32) rfl rfl OX.out (by omega) w9.heap.size 1 1 [⟨r.n, r.p, .slice A8 n8 c8, r.l.take (min (r.l.length : Int) 9).toNat, r.c, r.k, r.rk, r.rf, r.rt⟩] rfl rfl (by omega) (blk_new w9 _) (fun r' hr => (by rw [List.mem_singleton] at hr; subst hr; exact GX.out)) ?_; intro v5 w5 h5 hg5 _; have O5 := Lib.hid h5; obtain ⟨A5, n5, c5, e5⟩ := h5.shape; subst e5; clear h5 hg5))
        go_roundw
        case rel =>
          refine ⟨k + 1, _, by omega, by omega, by go_num, O5.out, by simp; omega, ?_⟩
          intro r' hr'
          rw [List.mem_append, List.mem_singleton] at hr'
          rcases hr' with hr' | rfl
          · exact HFi.out r' hr'
          · refine ⟨by show (r.l.take _).length ≤ 9; rw [List.length_take]; have := HM2.out; omega, HZ7.out.1, fun g hg => HZ7.out.2 g (List.mem_of_mem_take hg)⟩
        case measure => simp [intOf]; omega
      · obtain rfl : k = 17 := by omega
        have d1 : ¬ ((17 : Nat) : Int) < 17 := by omega
        go_wp2
        go_ret
        exact ⟨_, L, rfl, HO.out, by omega, HFi.out⟩
    · have d0 : ¬ (k : Int) < (l.length : Int) := by omega
      go_wp2
      go_ret
      exact ⟨_, L, rfl, HO.out, by omega, HFi.out⟩
end Go.Proofs.YtnnmbpghkflepaaGreatDoor
