import Derived.Test.YtbnnmelkbjkkjaaSyncJ
namespace Go.Proofs.Ytbnnmelkbjkkjaa
open Go.RowKit

theorem Try.info90 : (Try.prog.info? 90).map (fun i => (i.zero, i.size, i.bytes)) = some (some (.agg #[.nilFunc, .int .i64 0]), 2, 16) := by kernel_rfl
theorem lim_max {n : Nat} (h : n ≤ Lim) : n ≤ maxLen := by unfold Lim at h; unfold maxLen; omega
theorem lim_wide {n : Nat} (h : n ≤ Lim) : (n + n / 4 + 192) * 16 ≤ 281474976710656 := by unfold Lim at h; omega
/-- One loose act, for an append. -/
theorem src_la {w : World} {b : Nat} {e : LA} {v u : Value} (h : w.heap[b]? = some (.cells #[v, u] 90 (0, 0))) (hv : v = e.fv) (hu : u = .int .i64 (e.sz : Int)) : Src Try.prog 2 67 (.slice (some ⟨b, 0, none⟩) 1 1) 1 e.cells w := by
  subst hv hu
  exact Src.ofSlice w Try.underlying67 ⟨b, 0, none⟩ 1 1 e.cells rfl (fun j u hj => by
    rw [Addr.add_none, Nat.zero_add, cell_of_row w b j _ 90 (0, 0) h]
    have : e.cells = (#[e.fv, .int .i64 (e.sz : Int)] : Array Value).toList := rfl
    rw [this] at hj
    simpa using hj) (by have := lcells_ones [e]; rw [lcells_one'] at this; exact this)
/-- What comes of one more loose act. -/
theorem SM.more {base B o : Nat} {w W w2 : World} {cs : Array Value} {s : SL} {e : LA} {p : Option Addr} {c : Nat} (h : IsS base w s) (bk : w.heap[B]? = some (.cells cs 72 (0, 0))) (e0 : cs[o]? = some (.slice s.a s.n s.c)) (hU : ¬ s.Uses B) (K : Kept (fun _ => False) w W) (ge : e.Good W) (he : ∀ k, e.Uses k → w.heap.size ≤ k)
    (ho : w2.ownsRow base 90 2 (.slice p (s.ln + 1) c) (s.ln + 1) (lcells s.L ++ e.cells)) (hg : W.grownBy w2 (Value.slice s.la s.ln s.lc).ownBlock) (hn : (Value.slice p (s.ln + 1) c).ownBlock = (Value.slice s.la s.ln s.lc).ownBlock ∨ ((Value.slice p (s.ln + 1) c).ownBlock = some W.heap.size ∧ W.grownBy w2 none)) (hlt : ∀ k, e.Uses k → k < W.heap.size) :
    w2.heap[B]? = some (.cells cs 72 (0, 0)) ∧ SM base B o w (w2.setCell ⟨B, o + 1, none⟩ (.slice p (s.ln + 1) c)) cs s { s with la := p, ln := s.ln + 1, lc := c, L := s.L ++ [e] } := by
  rw [blockOf_own] at hg hn
  rw [blockOf_own] at hn
  have hBs := block_lt bk
  have K2 : Kept (fun k => blockOf s.la = some k) W w2 := (Kept.refl _ _).grown hg (fun k _ z => z.symm ▸ rfl)
  have KW2 : Kept (fun k => blockOf s.la = some k) w w2 := (K.mono (fun _ _ z => z.elim)).trans K2 (fun _ _ z => z)
  have hBl : ¬ blockOf s.la = some B := fun z => hU (.inr (.inl z))
  have bk2 := KW2.get bk hBl
  have K3 : Kept (fun k => k = B) w2 (w2.setCell ⟨B, o + 1, none⟩ (.slice p (s.ln + 1) c)) := (Kept.refl (fun k => k = B) w2).setCell (p := ⟨B, o + 1, none⟩) (fun _ => rfl) _
  have KA : Kept (fun k => k = B ∨ blockOf s.la = some k) w (w2.setCell ⟨B, o + 1, none⟩ (.slice p (s.ln + 1) c)) := (KW2.mono (fun k _ z => .inr z)).setCell (p := ⟨B, o + 1, none⟩) (fun _ => .inl rfl) _
  have pn : ∀ k, blockOf p = some k → blockOf s.la = some k ∨ w.heap.size ≤ k := fun k hk => by
    rcases hn with z | ⟨z, _⟩
    · exact .inl (by rw [← z]; exact hk)
    · rw [z] at hk; simp at hk; exact .inr (by have := K.size; omega)
  have pB : ∀ k, blockOf p = some k → k ≠ B := fun k hk z => by
    subst z
    rcases pn k hk with q | q
    · exact hBl q
    · omega
  have pe : ∀ k, blockOf p = some k → ¬ e.Uses k := fun k hk z => by
    rcases hn with q | ⟨q, _⟩
    · have := (own_lt h.lown k (by rw [← q]; exact hk)).2
      have := he k z
      omega
    · rw [q] at hk
      simp at hk
      have := hlt k z
      omega
  refine ⟨bk2, ?_, ⟨?_, h.bytes, K3.owns (by rw [lcells_append, lcells_one']; exact ho) (fun k hk => pB k (by rw [← hk]; exact (blockOf_own ..).symm)), fun x hx => ?_, fun k hk x hx z => ?_⟩, KA.mono (fun k _ z => ?_), fun k hk => ?_, fun k hk => ?_⟩
  · have e1 : cs.setIfInBounds o (.slice s.a s.n s.c) = cs := by
      obtain ⟨hlt2, e2⟩ := Array.getElem?_eq_some_iff.1 e0
      apply Array.ext
      · simp
      · intro j h1 h2
        rw [Array.getElem_setIfInBounds]
        split
        · subst_vars; exact e2.symm
        · rfl
    simp only [e1]
    exact set_heap bk2 (o + 1) _
  · refine KA.owns h.own (fun k hk z => ?_)
    have hk2 : blockOf s.a = some k := by rw [← hk]; exact (blockOf_own ..).symm
    rcases z with z | z
    · exact hU (.inl (by rw [← z]; exact hk2))
    · exact h.ne k hk2 z
  · rcases List.mem_append.1 hx with z | z
    · refine (h.good x z).off KA (fun k hk q => ?_)
      rcases q with q | q
      · exact hU (.inr (.inr ⟨x, z, by rw [← q]; exact hk⟩))
      · exact h.far k (.inr q) x z hk
    · rw [List.mem_singleton.1 z]
      refine (ge.off K2 (fun k hk q => ?_)).off K3 (fun k hk q => ?_)
      · have := (own_lt h.lown k q).2
        have := he k hk
        omega
      · have := he k hk
        omega
  · rcases List.mem_append.1 hx with m | m
    · rcases hk with q | q
      · exact h.far k (.inl q) x m z
      · rcases pn k q with r | r
        · exact h.far k (.inr r) x m z
        · have := h.lt (k := k) (.inr (.inr ⟨x, m, z⟩))
          omega
    · rw [List.mem_singleton.1 m] at z
      rcases hk with q | q
      · have := (own_lt h.own k q).2
        have := he k z
        omega
      · exact pe k q z
  · rcases z with z | z
    · exact .inl z
    · exact .inr (.inr z)
  · rcases hk with z | z | ⟨x, hx, z⟩
    · exact .inl (.inl z)
    · rcases pn k z with q | q
      · exact .inl (.inr (.inl q))
      · exact .inr q
    · rcases List.mem_append.1 hx with m | m
      · exact .inl (.inr (.inr ⟨x, m, z⟩))
      · rw [List.mem_singleton.1 m] at z
        exact .inr (he k z)
  · rcases hk with z | z
    · exact .inl (.inl z)
    · rcases pn k z with q | q
      · exact .inl (.inr q)
      · exact .inr q
set_option maxRecDepth 100000 in
/-- add of no bytes. -/
theorem add_none (p : Value) (a : Option Addr) (c : Nat) (w : World) : Calls Try.prog 39 #[p, .slice a 0 c] w fun x w' => x = .returned (.tuple #[]) ∧ w' = w := by
  go_enter Try.func39, Try.ntmps39
  go_wp2_with fail
  (try simp only [Exit.inBlock, Exit.then])
  refine bodyPost_ret (results_none rfl _ _ _) rfl ?_
  exact ⟨rfl, rfl⟩
set_option maxRecDepth 100000 in
set_option maxHeartbeats 1000000 in
theorem add (base B o : Nat) (s : SL) (cs : Array Value) (a : Option Addr) (n c : Nat) (l : List Nat) (w : World) (h : IsS base w s) (hb : base ≤ w.heap.size) (bk : w.heap[B]? = some (.cells cs 72 (0, 0))) (e0 : cs[o]? = some (.slice s.a s.n s.c)) (e1 : cs[o + 1]? = some (.slice s.la s.ln s.lc)) (hU : ¬ s.Uses B) (r : Reads w a n c l) (hn0 : 0 < n) (hn : n ≤ Lim) (hl : s.ln + 1 ≤ Lim) :
    Calls Try.prog 39 #[.pointer (some ⟨B, o, none⟩), .slice a n c] w fun x w' => ∃ s' e, x = .returned (.tuple #[]) ∧ s'.l = s.l ∧ s'.L = s.L ++ [e] ∧ e.x = some l ∧ SM base B o w w' cs s s' := by
  have H : Hid (IsS base w s ∧ base ≤ w.heap.size ∧ w.heap[B]? = some (.cells cs 72 (0, 0)) ∧ cs[o]? = some (.slice s.a s.n s.c) ∧ ¬ s.Uses B ∧ Reads w a n c l ∧ s.ln + 1 ≤ Lim ∧ cs[o + 1]? = some (.slice s.la s.ln s.lc)) := ⟨h, hb, bk, e0, hU, r, hl, e1⟩
  have hlen := r.length
  have n0 : ¬ ((n : Int) = 0) := by omega
  have n1 : ¬ (n = 0) := by omega
  have hn2 : n ≤ 140737488355328 := by unfold Lim at hn; omega
  clear h hb bk e0 hU r hl e1
  go_enter Try.func39, Try.ntmps39
  go_wp2_with fail
  refine (clone a n c l w H.out.2.2.2.2.2.1 hn2).mono ?_
  rintro x w1 ⟨p1, k1, rfl, o1, K1⟩
  obtain ⟨W, hW⟩ : ∃ W, W = w1.alloc (.cells #[.slice p1 n k1] 22) := ⟨_, rfl⟩
  have X : Hid (Kept (fun _ => False) w W ∧ W.heap[w1.heap.size]? = some (.cells #[.slice p1 n k1] 22 (0, 0)) ∧ Reads W p1 n k1 l ∧ (∀ k, blockOf p1 = some k → w.heap.size ≤ k ∧ k < w1.heap.size) ∧ w.heap.size ≤ w1.heap.size ∧ W.heap.size = w1.heap.size + 1) := by
    have KW : Kept (fun _ => False) w1 W := by rw [hW]; exact alloc_kept0 _ _
    obtain ⟨a2, c2, e2, r2, _⟩ := owns_reads o1 H.out.2.2.2.2.2.1.bytes
    simp at e2
    obtain ⟨rfl, rfl⟩ := e2
    exact ⟨K1.trans KW (fun _ _ z => z), by rw [hW]; exact alloc_new _ _, r2.kept' KW (fun _ _ z => z), own_lt o1, K1.size, by rw [hW]; exact alloc_size _ _⟩
  have EW : Hid (W = w1.alloc (.cells #[.slice p1 n k1] 22)) := hW
  clear hW o1 K1
  go_upto_region 3 with fail
  rw [← EW.out]
  have bkW := X.out.1.get H.out.2.2.1 (fun z => z)
  have c1 := cell_blk bkW (o + 1) H.out.2.2.2.2.2.2.2
  have f1 := soft_blk bkW (o + 1)
  have cb := cell_blk X.out.2.1 0 rfl
  have hBW : B < W.heap.size := block_lt bkW
  have hwW : w1.heap.size < W.heap.size := by have := X.out.2.2.2.2; omega
  have KA := alloc_kept0 W (.cells #[.func (.func 58) #[] #[.pointer (some ⟨w1.heap.size, 0, none⟩)], .int .i64 (n : Int)] 90)
  have c1' := KA.cell c1 (fun z => z)
  have cb' := KA.cell cb (fun z => z)
  clear bkW KA
  have EL : Hid (∀ Y : World, Kept (fun _ => False) W Y → LA.Good Y ⟨some l, w1.heap.size, p1, n, k1⟩ ∧ (∀ k, LA.Uses ⟨some l, w1.heap.size, p1, n, k1⟩ k → w.heap.size ≤ k ∧ k < Y.heap.size)) := fun Y KY => by
    refine ⟨fun l' hl' => ?_, fun k hk => ?_⟩
    · simp at hl'
      subst hl'
      exact ⟨by omega, KY.get X.out.2.1 (fun z => z), X.out.2.2.1.kept' KY (fun _ _ z => z)⟩
    · have hs := KY.size
      have hx := X.out.2.2.2.2
      rcases hk.2 with z | z
      · have z : k = w1.heap.size := z
        omega
      · have := X.out.2.2.2.1 k z
        omega
  go_region_law
    (first
      | (refine step_append_d _ (by rfl) 22 (by rfl) (.tmp 16) (.tmp 21) 67 90 67 _ 2 16 (by rfl) Try.underlying67 Try.info90 rfl base (.slice s.la s.ln s.lc) s.ln (lcells s.L) (by rfl) (H.out.1.kept0 (by repeat (first | with_reducible exact Kept.refl _ _ | with_reducible exact X.out.1 | with_reducible refine Kept.drew ?_ | with_reducible refine Kept.alloc ?_ _))).lown _ 1 (LA.cells ⟨some l, w1.heap.size, p1, n, k1⟩) (by rfl) (src_la (v := .func (.func 58) #[] #[.pointer (some ⟨w1.heap.size, 0, none⟩)]) (u := .int .i64 (n : Int)) (by repeat (first | with_reducible exact alloc_new _ _ | with_reducible exact alloc_newD _ _ _ | with_reducible refine get_drew ?_ | with_reducible refine get_alloc ?_)) rfl (by show Value.int .i64 (n : Int) = .int .i64 (l.length : Int); rw [hlen])) (lim_max H.out.2.2.2.2.2.2.1) (lim_wide H.out.2.2.2.2.2.2.1) (Nat.le_trans H.out.2.1 (show Kept (fun _ => False) w _ from (by repeat (first | with_reducible exact Kept.refl _ _ | with_reducible exact X.out.1 | with_reducible refine Kept.drew ?_ | with_reducible refine Kept.alloc ?_ _))).size) ?_; intro p2 c2 w2 ho hg hn
         have X2 : Hid (w2.heap[B]? = some (.cells cs 72 (0, 0)) ∧ SM base B o w (w2.setCell ⟨B, o + 1, none⟩ (.slice p2 (s.ln + 1) c2)) cs s { s with la := p2, ln := s.ln + 1, lc := c2, L := s.L ++ [⟨some l, w1.heap.size, p1, n, k1⟩] }) := SM.more H.out.1 H.out.2.2.1 H.out.2.2.2.1 H.out.2.2.2.2.1 (by repeat (first | with_reducible exact Kept.refl _ _ | with_reducible exact X.out.1 | with_reducible refine Kept.drew ?_ | with_reducible refine Kept.alloc ?_ _)) (EL.out _ (by repeat (first | with_reducible exact Kept.refl _ _ | with_reducible exact X.out.1 | with_reducible refine Kept.drew ?_ | with_reducible refine Kept.alloc ?_ _))).1 (fun k hk => ((EL.out _ (by repeat (first | with_reducible exact Kept.refl _ _ | with_reducible exact X.out.1 | with_reducible refine Kept.drew ?_ | with_reducible refine Kept.alloc ?_ _))).2 k hk).1) ho.out hg.out hn.out (fun k hk => ((EL.out _ (by repeat (first | with_reducible exact Kept.refl _ _ | with_reducible exact X.out.1 | with_reducible refine Kept.drew ?_ | with_reducible refine Kept.alloc ?_ _))).2 k hk).2)
         have d1 := cell_blk X2.out.1 (o + 1) H.out.2.2.2.2.2.2.2
         have g1 := soft_blk X2.out.1 (o + 1)
         clear ho hg hn)
      | fail)
  all_goals go_wp2_with fail
  all_goals go_end0
  all_goals exact ⟨{ s with la := p2, ln := s.ln + 1, lc := c2, L := s.L ++ [⟨some l, w1.heap.size, p1, n, k1⟩] }, ⟨some l, w1.heap.size, p1, n, k1⟩, rfl, rfl, rfl, rfl, X2.out.2⟩
set_option maxRecDepth 100000 in
set_option maxHeartbeats 1000000 in
theorem wipe (base B o : Nat) (s : SL) (cs : Array Value) (w : World) (h : IsS base w s) (hb : base ≤ w.heap.size) (bk : w.heap[B]? = some (.cells cs 72 (0, 0))) (e0 : cs[o]? = some (.slice s.a s.n s.c)) (e1 : cs[o + 1]? = some (.slice s.la s.ln s.lc)) (hU : ¬ s.Uses B) (hl : s.ln + 1 ≤ Lim) :
    Calls Try.prog 46 #[.pointer (some ⟨B, o, none⟩)] w fun x w' => ∃ s' e, x = .returned (.tuple #[]) ∧ s'.l = s.l ∧ s'.L = s.L ++ [e] ∧ e.x = none ∧ SM base B o w w' cs s s' := by
  have H : Hid (IsS base w s ∧ base ≤ w.heap.size ∧ w.heap[B]? = some (.cells cs 72 (0, 0)) ∧ cs[o]? = some (.slice s.a s.n s.c) ∧ ¬ s.Uses B ∧ s.ln + 1 ≤ Lim ∧ cs[o + 1]? = some (.slice s.la s.ln s.lc)) := ⟨h, hb, bk, e0, hU, hl, e1⟩
  have c1 := cell_blk bk (o + 1) e1
  have f1 := soft_blk bk (o + 1)
  obtain ⟨W, hW⟩ : ∃ W, W = w.alloc (.cells #[.func (.func 61) #[] #[], .int .i64 0] 90) := ⟨_, rfl⟩
  have EW : Hid (W = w.alloc (.cells #[.func (.func 61) #[] #[], .int .i64 0] 90)) := hW
  have X : Hid (Kept (fun _ => False) w W ∧ Src Try.prog 2 67 (.slice (some ⟨w.heap.size, 0, none⟩) 1 1) 1 (LA.cells ⟨none, 0, none, 0, 0⟩) W) := by
    refine ⟨by rw [hW]; exact alloc_kept0 _ _, src_la (v := .func (.func 61) #[] #[]) (u := .int .i64 0) (by rw [hW]; exact alloc_new _ _) rfl rfl⟩
  clear h hb bk e0 e1 hU hl hW
  go_enter Try.func46, Try.ntmps46
  go_wp2_with
    (first
      | (at_builtin; rw [← EW.out]; refine wpList_append_all _ rfl (.tmp 6) (.tmp 8) 67 90 67 _ 2 16 rfl Try.underlying67 Try.info90 rfl base (.slice s.la s.ln s.lc) s.ln (lcells s.L) rfl (H.out.1.kept0 X.out.1).lown _ 1 (LA.cells ⟨none, 0, none, 0, 0⟩) rfl X.out.2 (lim_max H.out.2.2.2.2.2.1) (lim_wide H.out.2.2.2.2.2.1) (Nat.le_trans H.out.2.1 X.out.1.size) ?_; intro p2 c2 w2 ho hg hn
         have X2 : Hid (w2.heap[B]? = some (.cells cs 72 (0, 0)) ∧ SM base B o w (w2.setCell ⟨B, o + 1, none⟩ (.slice p2 (s.ln + 1) c2)) cs s { s with la := p2, ln := s.ln + 1, lc := c2, L := s.L ++ [⟨none, 0, none, 0, 0⟩] }) := SM.more H.out.1 H.out.2.2.1 H.out.2.2.2.1 H.out.2.2.2.2.1 X.out.1 (fun l hl => by simp at hl) (fun k hk => absurd rfl hk.1) ho.out hg.out hn.out (fun k hk => absurd rfl hk.1)
         have d1 := cell_blk X2.out.1 (o + 1) H.out.2.2.2.2.2.2
         have g1 := soft_blk X2.out.1 (o + 1)
         clear ho hg hn)
      | fail)
  go_end0
  exact ⟨{ s with la := p2, ln := s.ln + 1, lc := c2, L := s.L ++ [⟨none, 0, none, 0, 0⟩] }, ⟨none, 0, none, 0, 0⟩, rfl, rfl, rfl, rfl, X2.out.2⟩
end Go.Proofs.Ytbnnmelkbjkkjaa
