/-
  trie's All.
-/
import Derived.Test.YtgiepgbjkkhniaaFnd
namespace Go.Proofs.Ytgiepgbjkkhniaa
open Go.RowKit Go.PlainAid
set_option maxRecDepth 100000
theorem wpList_mkI {ops : Array Oper} {rest : List Oper} {o : Oper} {a : Act} {Q : Exit → Act → World → Prop} (w : World) (hg : o.guard = none) (l c : Operand) (hop : o.op = Op.makeSlice 35 l c)
    (B : Nat) (w0 : World) (hb : Below B w0 w) (hB : B ≤ w.heap.size)
    (C : Int) (n : Nat) (hl : a.eval l = .int .i64 0) (hc : a.eval c = .int .i64 C) (hC : C = (n : Int)) (hn : n ≤ 1000000000)
    (hK : ∀ v w', OwnI B w0 v [] w' → Below w.heap.size w w' → wpList Try.prog ops Q rest (a.put o.dst v) w') : wpList Try.prog ops Q (o :: rest) a w := by
  obtain ⟨i0, hi, hz0, hz1, hz2⟩ := info_parts info3
  refine wpList_make_own w hg l c 35 hop B 3 i0 (.int .i64 0) 1 Try.underlying35 hi hz0 hz1 .i64 .i64 C n hl hc hC (by rw [hz2]; omega) (by unfold maxLen; omega) hB ?_
  intro w' h1 h2
  exact hK _ w' ⟨h1, hb.grown h2 hB (fun k hk => by cases hk), by have := h2.size; omega⟩ ((Below.refl _ w).grown h2 (Nat.le_refl _) (fun k hk => by cases hk))
theorem take_en (l : List En) (k : Nat) (h : k < l.length) : (l.take (k + 1)).map En.n = (l.take k).map En.n ++ [(l.getD k default).n] := take_next En.n l k h
section
variable {wF w0 : World} {B T cnt : Nat} {es : List En} {nd : Key → Option Nat} {ro : Nat → Option (Key × Nat)} {c : Nat}
set_option maxHeartbeats 3200000 in
theorem all10 (h : Tr B w0 T cnt es nd ro c wF) {ls : List (List Sg)} (hs : Srt ls es) (hes : es.length ≤ 1000) (pv : Value) (path : List ByteArray) (hp : Ss wF pv path) (hsz : ∀ s ∈ path, s.size ≤ 100000000) :
    Calls Try.prog 10 #[.pointer (some ⟨T, 0, none⟩), pv] wF fun e w' => ∃ v, e = .returned v ∧ Ni w' v ((mat es path).map En.n) ∧ Below wF.heap.size wF w' := by
  have hml : (mat es path).length ≤ 1000 := Nat.le_trans (List.length_filter_le _ _) hes
  have XW := Lib.hid (walk24 h path (fun s hs' => by have := hsz s hs'; unfold maxLen; omega) [] T h.root pv (.slice none 0 0) [] wF hp (nilE _ _ _ (Below.refl _ _) (Nat.le_refl _)) (by rw [hs.wlk]; simp; omega))
  rw [hs.wlk, List.nil_append] at XW
  have GS : Hid (∀ e ∈ mat es path, ∃ A n c, e.u = .slice A n c) := fun e he => by
    rw [mat, List.mem_filter] at he
    exact (h.ent e he.1).shape
  obtain ⟨Ap, np, cp, rfl⟩ := hp.shape
  clear h hs hp hsz
  generalize mat es path = xs at *
  have XW : Hid (Calls Try.prog 24 #[.pointer (some ⟨T, 1, none⟩), .slice Ap np cp, .slice none 0 0] wF (WalkPost wF.heap.size wF xs)) := XW.out
  go_enter Try.func10, Try.ntmps10
  go_wp2_with (first
    | (go_at_call 24; refine XW.out.mono ?_; rintro e w1 ⟨v1, rfl, h1⟩; have H1 := Lib.hid h1; obtain ⟨A1, c1, hv1, hcc⟩ := h1.es; subst hv1; have CC := Lib.hid hcc; clear h1 hcc)
    | (at_make; refine wpList_mkI w1 rfl _ _ rfl w1.heap.size w1 (Below.refl _ _) (Nat.le_refl _) _ xs.length rfl rfl rfl (by omega) ?_; intro v2 w2 h2 hb2; have H2 := Lib.hid h2; obtain ⟨A2, n2, c2, rfl⟩ := h2.shape; clear h2 hb2))
  go_loopw [6, 19] (fun nv i wr => ∃ k : Nat, k ≤ xs.length ∧ i = .int .i64 k ∧ OwnI w1.heap.size w1 nv ((xs.take k).map En.n) wr) (fun _ i _ => xs.length - (intOf i).toNat)
  case atStart => exact ⟨0, Nat.zero_le _, rfl, H2.out⟩
  case round =>
    obtain ⟨k, hk, rfl, hi⟩ := hrel
    have HI := Lib.hid hi
    obtain ⟨A4, n4, c4, rfl⟩ := hi.shape
    clear hi H2
    by_cases hlt : k < xs.length
    · have d0 : (k : Int) < (xs.length : Int) := by omega
      obtain ⟨g, rfl, hx0, hx1⟩ := CC.out k hlt
      have hgl : g < w1.heap.size := World.block_lt_of_cell? _ _ hx0
      have x0 : wr.cell? ⟨g, k * 2, none⟩ = some (.int .i64 ((xs.getD k default).n : Nat)) := by rw [HI.out.2.1.cell hgl]; exact hx0
      have x1 : wr.cell? ⟨g, k * 2 + 1, none⟩ = some (xs.getD k default).u := by rw [HI.out.2.1.cell hgl]; exact hx1
      obtain ⟨Au, nu, cu, hu⟩ := GS.out _ (getD_mem xs k hlt)
      rw [hu] at x1
      have TK := Lib.hid (take_en xs k hlt)
      have tl : ((xs.take k).map En.n).length ≤ 1000 := by rw [List.length_map, List.length_take]; omega
      obtain ⟨y, hy⟩ : ∃ y, y = (xs.getD k default).n := ⟨_, rfl⟩
      rw [← hy] at x0 TK
      clear hx0 hx1 hy hu
      have z0 : (wr.alloc (.cells #[.int .i64 (y : Nat), .slice Au nu cu] 66 (0, 0))).cell? ⟨wr.heap.size, 0, none⟩ = some (.int .i64 (y : Nat)) := by rw [blk_cell (blk_new _ _)]; rfl
      go_wp2_with (first
        | (at_builtin; refine wpList_appI (w := (wr.alloc (.cells #[.int .i64 (y : Nat), .slice Au nu cu] 66 (0, 0))).alloc (.cells #[.int .i64 (y : Int)] 3 (0, 0))) rfl (.tmp 23) (.tmp 26) rfl rfl ((HI.out.alloc _).alloc (.cells #[.int .i64 (y : Int)] 3 (0, 0))) tl (wr.heap.size + 1) y rfl (blk_new1 _ _ _) ?_; intro v6 w6 h6 hg6; have H6 := Lib.hid h6; obtain ⟨A6, n6, c6, rfl⟩ := h6.shape; clear h6 hg6))
      go_roundw
      case rel => exact ⟨k + 1, by omega, by go_num, by rw [TK.out]; exact H6.out⟩
      case measure => simp [intOf]; omega
    · obtain rfl : k = xs.length := by omega
      go_wp2
      go_ret
      have := HI.out
      rw [List.take_length] at this
      exact ⟨_, rfl, this.ni, H1.out.2.1.trans (this.2.1.mono H1.out.2.2)⟩
end
end Go.Proofs.Ytgiepgbjkkhniaa
