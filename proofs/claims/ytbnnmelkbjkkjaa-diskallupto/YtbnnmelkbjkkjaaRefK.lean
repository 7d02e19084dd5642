import Derived.Test.YtbnnmelkbjkkjaaRefJ
namespace Go.Proofs.Ytbnnmelkbjkkjaa
open Go.RowKit

set_option maxRecDepth 100000 in
set_option maxHeartbeats 4000000 in
theorem rA_1_0_0 (base B : Nat) (d : RK) (a : Option Addr) (n c : Nat) (l : List Nat) (w : World) (h : IsR base w B d) (ok : d.ab.Ok) (hd : d.dead = false) (hN : d.named = 0) (r : Reads w a n c l) (hn : n ≤ Lim) (hrB : 0 < n → ∀ k, blockOf a = some k → k ≠ B) :
    Calls Try.prog 70 #[.pointer (some ⟨B, 0, none⟩), .int .i64 1, .int .i64 0, .slice a n c] w fun x w' => x = .returned (.int .i64 0) ∧ ∃ d', IsR base w' B d' ∧ RM w w' B d d' ∧ d'.ab = d.ab.tick.counted.put 1 0 l := by
  have hlen := r.length
  have hlL : n ≤ 140737488355328 := by unfold Lim at hn; omega
  by_cases hn0 : n = 0
  · subst hn0
    have hl0 : l = [] := List.eq_nil_of_length_eq_zero hlen
    subst hl0
    have c8 : w.cell? ⟨B, 8, none⟩ = some (.bool false) := by rw [← hd]; exact h.cell 8 rfl
    have c5 : w.cell? ⟨B, 5, none⟩ = some (.int .i64 (d.acts : Int)) := h.cell 5 rfl
    have s5 := h.soft 5
    have oa : d.acts + 1 ≤ Lim := ok.acts
    unfold Lim at oa
    obtain ⟨m, hm⟩ : ∃ m, d.acts + 1 = m := ⟨_, rfl⟩
    have wa : IntKind.i64.wrap ((d.acts : Int) + 1) = (m : Int) := by rw [IntKind.wrap_i64]; omega
    have LO : Hid (base ≤ w.heap.size) := by have := h.low; have := block_lt h.blk; show base ≤ w.heap.size; omega
    have c6 : w.cell? ⟨B, 6, none⟩ = some (.int .i64 0) := by rw [← hN]; exact h.cell 6 rfl
    obtain ⟨d1, hd1⟩ : ∃ d1 : RK, d1 = { d with acts := m } := ⟨_, rfl⟩
    obtain ⟨q1, q2⟩ := h.put (d' := d1) 5 (.int .i64 (m : Int)) (by rw [hd1]) (by rw [hd1]) (by rw [hd1]; rfl) (by rw [hd1]; exact h.two)
    obtain ⟨WA, hWA⟩ : ∃ WA, WA = w.setCell ⟨B, 5, none⟩ (.int .i64 (m : Int)) := ⟨_, rfl⟩
    rw [← hWA] at q1 q2
    have ea : d1.ab = d.ab.tick.counted := by rw [tick_free (show d.ab.named = 0 from hN), hd1, ← hm]; rfl
    have EW : Hid (WA = w.setCell ⟨B, 5, none⟩ (.int .i64 (m : Int))) := hWA
    have Q : Hid (IsR base WA B d1 ∧ RM w WA B d d1 ∧ base ≤ WA.heap.size ∧ d1.ab.Ok' d.ab) := ⟨q1, q2, Nat.le_trans LO.out q2.kept.size, by rw [hd1]; exact ⟨ok.w0, ok.w1, ok.n0, ok.n1⟩⟩
    rw [← ea]
    clear h ok hd hN hWA q1 q2 oa hm hd1 ea    r hn
    go_enter Try.func70, Try.ntmps70
    go_upto_region 15 with fail
    rw [← EW.out]
    clear c8 c5 s5 wa c6   
    go_wp2_with fail
    go_ret
    exact ⟨rfl, _, Q.out.1, Q.out.2.1, rfl⟩
  · have n0 : (n : Int) > 0 := by omega
    have n1 : 0 < n := by omega
    have c8 : w.cell? ⟨B, 8, none⟩ = some (.bool false) := by rw [← hd]; exact h.cell 8 rfl
    have c5 : w.cell? ⟨B, 5, none⟩ = some (.int .i64 (d.acts : Int)) := h.cell 5 rfl
    have s5 := h.soft 5
    have oa : d.acts + 1 ≤ Lim := ok.acts
    unfold Lim at oa
    obtain ⟨m, hm⟩ : ∃ m, d.acts + 1 = m := ⟨_, rfl⟩
    have wa : IntKind.i64.wrap ((d.acts : Int) + 1) = (m : Int) := by rw [IntKind.wrap_i64]; omega
    have LO : Hid (base ≤ w.heap.size) := by have := h.low; have := block_lt h.blk; show base ≤ w.heap.size; omega
    have c6 : w.cell? ⟨B, 6, none⟩ = some (.int .i64 0) := by rw [← hN]; exact h.cell 6 rfl
    obtain ⟨d1, hd1⟩ : ∃ d1 : RK, d1 = { d with acts := m } := ⟨_, rfl⟩
    obtain ⟨q1, q2⟩ := h.put (d' := d1) 5 (.int .i64 (m : Int)) (by rw [hd1]) (by rw [hd1]) (by rw [hd1]; rfl) (by rw [hd1]; exact h.two)
    obtain ⟨WA, hWA⟩ : ∃ WA, WA = w.setCell ⟨B, 5, none⟩ (.int .i64 (m : Int)) := ⟨_, rfl⟩
    rw [← hWA] at q1 q2
    have ea : d1.ab = d.ab.tick.counted := by rw [tick_free (show d.ab.named = 0 from hN), hd1, ← hm]; rfl
    have EW : Hid (WA = w.setCell ⟨B, 5, none⟩ (.int .i64 (m : Int))) := hWA
    have Q : Hid (IsR base WA B d1 ∧ RM w WA B d d1 ∧ base ≤ WA.heap.size ∧ d1.ab.Ok' d.ab) := ⟨q1, q2, Nat.le_trans LO.out q2.kept.size, by rw [hd1]; exact ⟨ok.w0, ok.w1, ok.n0, ok.n1⟩⟩
    have RR : Hid (Reads WA a n c l) := by
      have hz : ∀ k, blockOf a = some k → k < w.heap.size := fun k hk => by
        obtain ⟨b, off, e, hcl⟩ := r.cells n1
        rw [e] at hk
        simp [blockOf] at hk
        subst hk
        exact World.block_lt_of_cell? w ⟨b, off + 0, none⟩ (hcl 0 n1)
      exact r.off (show Kept (fun k => k = B) w WA from by rw [hWA]; exact (Kept.refl (fun k => k = B) w).setCell (p := ⟨B, 5, none⟩) (fun _ => rfl) _) (fun k hk z => hrB n1 k hk z)
    rw [← ea]
    clear h ok hd hN hWA q1 q2 oa hm hd1 ea    hn r hn0
    go_enter Try.func70, Try.ntmps70
    go_upto_region 15 with fail
    rw [← EW.out]
    clear c8 c5 s5 wa c6   
    have LN : Hid (d1.s0.ln + 1 ≤ Lim) := by have h1 := Q.out.2.2.2.n0; have h2 : d1.ab.X0.length = d1.s0.ln := Q.out.1.z0.xlen; show d1.s0.ln + 1 ≤ Lim; omega
    have g2 : WA.cell? ⟨B, 2, none⟩ = some (.slice d1.s0.la d1.s0.ln d1.s0.lc) := Q.out.1.cell 2 rfl
    have hBW : B < WA.heap.size := block_lt Q.out.1.blk
    have KD : Hid (Kept (fun _ => False) WA WA.drew) := (Kept.refl (fun _ => False) WA).drew
    go_upto_region 18 with fail
    go_region_law
      (first
        | (refine step_append_d _ (by rfl) 86 (by rfl) (.tmp 80) (.tmp 85) 79 95 79 _ 2 32 (by rfl) Try.underlying79 Try.info95 rfl base (.slice d1.s0.la d1.s0.ln d1.s0.lc) d1.s0.ln (rcells d1.s0.L) (by rfl) (Q.out.1.kept0 (by repeat (first | with_reducible exact Kept.refl _ _ | with_reducible exact X1.out.2 | with_reducible refine Kept.drew ?_ | with_reducible refine Kept.alloc ?_ _))).z0.lown _ 1 (RA.cells ⟨some l, p1, n, k1⟩) (by rfl) (src_ra (v := .bool false) (u := .slice p1 n k1) (by repeat (first | with_reducible exact alloc_new _ _ | with_reducible exact alloc_newD _ _ _ | with_reducible refine get_drew ?_ | with_reducible refine get_alloc ?_)) rfl rfl) (lim_max LN.out) (lim_wide32 LN.out) (Nat.le_trans Q.out.2.2.1 (show Kept (fun _ => False) WA _ from (by repeat (first | with_reducible exact Kept.refl _ _ | with_reducible exact X1.out.2 | with_reducible refine Kept.drew ?_ | with_reducible refine Kept.alloc ?_ _))).size) ?_; intro p2 c2 w2 ho hg hn
           have X2 : Hid (w2.heap[B]? = some (.cells d1.cells 82 (0, 0)) ∧ IsR base (w2.setCell ⟨B, 2, none⟩ (.slice p2 (d1.s0.ln + 1) c2)) B { d1 with s0 := { d1.s0 with la := p2, ln := d1.s0.ln + 1, lc := c2, L := d1.s0.L ++ [⟨some l, p1, n, k1⟩] } } ∧ RM WA (w2.setCell ⟨B, 2, none⟩ (.slice p2 (d1.s0.ln + 1) c2)) B d1 { d1 with s0 := { d1.s0 with la := p2, ln := d1.s0.ln + 1, lc := c2, L := d1.s0.L ++ [⟨some l, p1, n, k1⟩] } }) := Q.out.1.more0 (by repeat (first | with_reducible exact Kept.refl _ _ | with_reducible exact X1.out.2 | with_reducible refine Kept.drew ?_ | with_reducible refine Kept.alloc ?_ _)) (EL.out _ (by repeat (first | with_reducible exact Kept.refl _ _ | with_reducible refine Kept.drew ?_ | with_reducible refine Kept.alloc ?_ _))).1 (EL.out _ (by repeat (first | with_reducible exact Kept.refl _ _ | with_reducible refine Kept.drew ?_ | with_reducible refine Kept.alloc ?_ _))).2 ho.out hg.out hn.out
           have dd1 := cell_blk X2.out.1 2 (show d1.cells[2]? = some (.slice d1.s0.la d1.s0.ln d1.s0.lc) from rfl)
           have gg1 := soft_blk X2.out.1 2
           clear ho hg hn)
        | (refine step_call_d _ (by rfl) 83 (by rfl) 68 [.const (.slice none 0 0), .tmp 82] _ (by rfl) [.slice none 0 0, .agg #[.bool false, .slice a n c]] (by simp [Act.eval, Act.put]) (enter68 _ _) ((laid none 0 0 [] a n c l WA.drew (Reads.nil _) (RR.out.kept' KD.out (fun _ _ z => z)) (by rw [Nat.zero_add]; exact hlL)).mono ?_); rintro x w1 ⟨p1, k1, rfl, o1, K1⟩; refine ⟨_, rfl, ?_⟩
           rw [Nat.zero_add] at o1 ⊢
           rw [List.nil_append] at o1
           have X1 : Hid (w1.ownsRow WA.heap.size 5 1 (.slice p1 n k1) n (cellsOf l) ∧ Kept (fun _ => False) WA w1) := ⟨o1, KD.out.trans K1 (fun _ _ z => z)⟩
           have e2 : w1.cell? ⟨B, 2, none⟩ = some (.slice d1.s0.la d1.s0.ln d1.s0.lc) := X1.out.2.cell g2 (fun z => z)
           have e3 : (w1.alloc (.cells #[.bool false, .slice p1 n k1] 95)).cell? ⟨B, 2, none⟩ = some (.slice d1.s0.la d1.s0.ln d1.s0.lc) := (alloc_kept0 w1 _).cell e2 (fun z => z)
           have hB1 : B < w1.heap.size := by have := X1.out.2.size; omega
           have EL : Hid (∀ Y : World, Kept (fun _ => False) w1 Y → RA.Good Y ⟨some l, p1, n, k1⟩ ∧ (∀ k, blockOf p1 = some k → WA.heap.size ≤ k ∧ k < Y.heap.size)) := fun Y KY => by
             refine ⟨⟨fun z => by simp at z, fun l' hl' => ?_⟩, fun k hk => ?_⟩
             · simp at hl'
               subst hl'
               exact ⟨by omega, (owned_reads' X1.out.1 RR.out.bytes).kept' KY (fun _ _ z => z)⟩
             · have := own_lt X1.out.1 k hk
               have := KY.size
               omega
           clear o1 K1)
        | fail)
    all_goals go_wp2_with fail
    all_goals go_ret
    all_goals exact ⟨rfl, _, X2.out.2.1, Q.out.2.1.trans X2.out.2.2, by rw [ab_more0]; show _ = d1.ab.add 0 l; unfold AB.add; rw [if_neg (by omega)]⟩
set_option maxRecDepth 100000 in
set_option maxHeartbeats 4000000 in
theorem rA_1_0_1 (base B : Nat) (d : RK) (a : Option Addr) (n c : Nat) (l : List Nat) (w : World) (h : IsR base w B d) (ok : d.ab.Ok) (hd : d.dead = false) (hN : 1 < d.named) (hN2 : d.named < 9223372036854775808) (r : Reads w a n c l) (hn : n ≤ Lim) (hrB : 0 < n → ∀ k, blockOf a = some k → k ≠ B) :
    Calls Try.prog 70 #[.pointer (some ⟨B, 0, none⟩), .int .i64 1, .int .i64 0, .slice a n c] w fun x w' => x = .returned (.int .i64 0) ∧ ∃ d', IsR base w' B d' ∧ RM w w' B d d' ∧ d'.ab = d.ab.tick.counted.put 1 0 l := by
  have hlen := r.length
  have hlL : n ≤ 140737488355328 := by unfold Lim at hn; omega
  by_cases hn0 : n = 0
  · subst hn0
    have hl0 : l = [] := List.eq_nil_of_length_eq_zero hlen
    subst hl0
    have c8 : w.cell? ⟨B, 8, none⟩ = some (.bool false) := by rw [← hd]; exact h.cell 8 rfl
    have c5 : w.cell? ⟨B, 5, none⟩ = some (.int .i64 (d.acts : Int)) := h.cell 5 rfl
    have s5 := h.soft 5
    have oa : d.acts + 1 ≤ Lim := ok.acts
    unfold Lim at oa
    obtain ⟨m, hm⟩ : ∃ m, d.acts + 1 = m := ⟨_, rfl⟩
    have wa : IntKind.i64.wrap ((d.acts : Int) + 1) = (m : Int) := by rw [IntKind.wrap_i64]; omega
    have LO : Hid (base ≤ w.heap.size) := by have := h.low; have := block_lt h.blk; show base ≤ w.heap.size; omega
    have c6 : w.cell? ⟨B, 6, none⟩ = some (.int .i64 d.named) := h.cell 6 rfl
    have s6 := h.soft 6
    obtain ⟨nv, hnv⟩ : ∃ nv, nv = d.named := ⟨_, rfl⟩
    rw [← hnv] at c6
    have nv0 : nv > 0 := by omega
    have nv1 : ¬ nv = 1 := by omega
    obtain ⟨nw, hnw⟩ : ∃ nw : Int, nw = nv - 1 := ⟨_, rfl⟩
    have wn : IntKind.i64.wrap (nv - 1) = nw := by rw [IntKind.wrap_i64]; omega
    obtain ⟨d1, hd1⟩ : ∃ d1 : RK, d1 = { d with named := nw, acts := m } := ⟨_, rfl⟩
    obtain ⟨p1, p2⟩ := h.put (d' := { d with named := nw }) 6 (.int .i64 nw) rfl rfl rfl h.two
    obtain ⟨q1, q2⟩ := p1.put (d' := d1) 5 (.int .i64 (m : Int)) (by rw [hd1]) (by rw [hd1]) (by rw [hd1]; rfl) (by rw [hd1]; exact h.two)
    obtain ⟨WA, hWA⟩ : ∃ WA, WA = (w.setCell ⟨B, 6, none⟩ (.int .i64 nw)).setCell ⟨B, 5, none⟩ (.int .i64 (m : Int)) := ⟨_, rfl⟩
    rw [← hWA] at q1 q2
    have q2 := p2.trans q2
    have ea : d1.ab = d.ab.tick.counted := by
      rw [hd1, ← hm]
      show _ = (AB.tick d.ab).counted
      unfold AB.tick
      rw [show d.ab.named = nv from hnv.symm, if_neg (by omega), ← hnw]
      rfl
    clear p1 p2 hnw hnv
    have EW : Hid (WA = (w.setCell ⟨B, 6, none⟩ (.int .i64 nw)).setCell ⟨B, 5, none⟩ (.int .i64 (m : Int))) := hWA
    have Q : Hid (IsR base WA B d1 ∧ RM w WA B d d1 ∧ base ≤ WA.heap.size ∧ d1.ab.Ok' d.ab) := ⟨q1, q2, Nat.le_trans LO.out q2.kept.size, by rw [hd1]; exact ⟨ok.w0, ok.w1, ok.n0, ok.n1⟩⟩
    rw [← ea]
    clear h ok hd hN hWA q1 q2 oa hm hd1 ea hN2   r hn
    go_enter Try.func70, Try.ntmps70
    go_upto_region 15 with fail
    rw [← EW.out]
    clear c8 c5 s5 wa c6  s6 nv0 wn 
    go_wp2_with fail
    go_ret
    exact ⟨rfl, _, Q.out.1, Q.out.2.1, rfl⟩
  · have n0 : (n : Int) > 0 := by omega
    have n1 : 0 < n := by omega
    have c8 : w.cell? ⟨B, 8, none⟩ = some (.bool false) := by rw [← hd]; exact h.cell 8 rfl
    have c5 : w.cell? ⟨B, 5, none⟩ = some (.int .i64 (d.acts : Int)) := h.cell 5 rfl
    have s5 := h.soft 5
    have oa : d.acts + 1 ≤ Lim := ok.acts
    unfold Lim at oa
    obtain ⟨m, hm⟩ : ∃ m, d.acts + 1 = m := ⟨_, rfl⟩
    have wa : IntKind.i64.wrap ((d.acts : Int) + 1) = (m : Int) := by rw [IntKind.wrap_i64]; omega
    have LO : Hid (base ≤ w.heap.size) := by have := h.low; have := block_lt h.blk; show base ≤ w.heap.size; omega
    have c6 : w.cell? ⟨B, 6, none⟩ = some (.int .i64 d.named) := h.cell 6 rfl
    have s6 := h.soft 6
    obtain ⟨nv, hnv⟩ : ∃ nv, nv = d.named := ⟨_, rfl⟩
    rw [← hnv] at c6
    have nv0 : nv > 0 := by omega
    have nv1 : ¬ nv = 1 := by omega
    obtain ⟨nw, hnw⟩ : ∃ nw : Int, nw = nv - 1 := ⟨_, rfl⟩
    have wn : IntKind.i64.wrap (nv - 1) = nw := by rw [IntKind.wrap_i64]; omega
    obtain ⟨d1, hd1⟩ : ∃ d1 : RK, d1 = { d with named := nw, acts := m } := ⟨_, rfl⟩
    obtain ⟨p1, p2⟩ := h.put (d' := { d with named := nw }) 6 (.int .i64 nw) rfl rfl rfl h.two
    obtain ⟨q1, q2⟩ := p1.put (d' := d1) 5 (.int .i64 (m : Int)) (by rw [hd1]) (by rw [hd1]) (by rw [hd1]; rfl) (by rw [hd1]; exact h.two)
    obtain ⟨WA, hWA⟩ : ∃ WA, WA = (w.setCell ⟨B, 6, none⟩ (.int .i64 nw)).setCell ⟨B, 5, none⟩ (.int .i64 (m : Int)) := ⟨_, rfl⟩
    rw [← hWA] at q1 q2
    have q2 := p2.trans q2
    have ea : d1.ab = d.ab.tick.counted := by
      rw [hd1, ← hm]
      show _ = (AB.tick d.ab).counted
      unfold AB.tick
      rw [show d.ab.named = nv from hnv.symm, if_neg (by omega), ← hnw]
      rfl
    clear p1 p2 hnw hnv
    have EW : Hid (WA = (w.setCell ⟨B, 6, none⟩ (.int .i64 nw)).setCell ⟨B, 5, none⟩ (.int .i64 (m : Int))) := hWA
    have Q : Hid (IsR base WA B d1 ∧ RM w WA B d d1 ∧ base ≤ WA.heap.size ∧ d1.ab.Ok' d.ab) := ⟨q1, q2, Nat.le_trans LO.out q2.kept.size, by rw [hd1]; exact ⟨ok.w0, ok.w1, ok.n0, ok.n1⟩⟩
    have RR : Hid (Reads WA a n c l) := by
      have hz : ∀ k, blockOf a = some k → k < w.heap.size := fun k hk => by
        obtain ⟨b, off, e, hcl⟩ := r.cells n1
        rw [e] at hk
        simp [blockOf] at hk
        subst hk
        exact World.block_lt_of_cell? w ⟨b, off + 0, none⟩ (hcl 0 n1)
      exact r.off (show Kept (fun k => k = B) w WA from by rw [hWA]; exact ((Kept.refl (fun k => k = B) w).setCell (p := ⟨B, 6, none⟩) (fun _ => rfl) _).setCell (p := ⟨B, 5, none⟩) (fun _ => rfl) _) (fun k hk z => hrB n1 k hk z)
    rw [← ea]
    clear h ok hd hN hWA q1 q2 oa hm hd1 ea hN2   hn r hn0
    go_enter Try.func70, Try.ntmps70
    go_upto_region 15 with fail
    rw [← EW.out]
    clear c8 c5 s5 wa c6  s6 nv0 wn 
    have LN : Hid (d1.s0.ln + 1 ≤ Lim) := by have h1 := Q.out.2.2.2.n0; have h2 : d1.ab.X0.length = d1.s0.ln := Q.out.1.z0.xlen; show d1.s0.ln + 1 ≤ Lim; omega
    have g2 : WA.cell? ⟨B, 2, none⟩ = some (.slice d1.s0.la d1.s0.ln d1.s0.lc) := Q.out.1.cell 2 rfl
    have hBW : B < WA.heap.size := block_lt Q.out.1.blk
    have KD : Hid (Kept (fun _ => False) WA WA.drew) := (Kept.refl (fun _ => False) WA).drew
    go_upto_region 18 with fail
    go_region_law
      (first
        | (refine step_append_d _ (by rfl) 86 (by rfl) (.tmp 80) (.tmp 85) 79 95 79 _ 2 32 (by rfl) Try.underlying79 Try.info95 rfl base (.slice d1.s0.la d1.s0.ln d1.s0.lc) d1.s0.ln (rcells d1.s0.L) (by rfl) (Q.out.1.kept0 (by repeat (first | with_reducible exact Kept.refl _ _ | with_reducible exact X1.out.2 | with_reducible refine Kept.drew ?_ | with_reducible refine Kept.alloc ?_ _))).z0.lown _ 1 (RA.cells ⟨some l, p1, n, k1⟩) (by rfl) (src_ra (v := .bool false) (u := .slice p1 n k1) (by repeat (first | with_reducible exact alloc_new _ _ | with_reducible exact alloc_newD _ _ _ | with_reducible refine get_drew ?_ | with_reducible refine get_alloc ?_)) rfl rfl) (lim_max LN.out) (lim_wide32 LN.out) (Nat.le_trans Q.out.2.2.1 (show Kept (fun _ => False) WA _ from (by repeat (first | with_reducible exact Kept.refl _ _ | with_reducible exact X1.out.2 | with_reducible refine Kept.drew ?_ | with_reducible refine Kept.alloc ?_ _))).size) ?_; intro p2 c2 w2 ho hg hn
           have X2 : Hid (w2.heap[B]? = some (.cells d1.cells 82 (0, 0)) ∧ IsR base (w2.setCell ⟨B, 2, none⟩ (.slice p2 (d1.s0.ln + 1) c2)) B { d1 with s0 := { d1.s0 with la := p2, ln := d1.s0.ln + 1, lc := c2, L := d1.s0.L ++ [⟨some l, p1, n, k1⟩] } } ∧ RM WA (w2.setCell ⟨B, 2, none⟩ (.slice p2 (d1.s0.ln + 1) c2)) B d1 { d1 with s0 := { d1.s0 with la := p2, ln := d1.s0.ln + 1, lc := c2, L := d1.s0.L ++ [⟨some l, p1, n, k1⟩] } }) := Q.out.1.more0 (by repeat (first | with_reducible exact Kept.refl _ _ | with_reducible exact X1.out.2 | with_reducible refine Kept.drew ?_ | with_reducible refine Kept.alloc ?_ _)) (EL.out _ (by repeat (first | with_reducible exact Kept.refl _ _ | with_reducible refine Kept.drew ?_ | with_reducible refine Kept.alloc ?_ _))).1 (EL.out _ (by repeat (first | with_reducible exact Kept.refl _ _ | with_reducible refine Kept.drew ?_ | with_reducible refine Kept.alloc ?_ _))).2 ho.out hg.out hn.out
           have dd1 := cell_blk X2.out.1 2 (show d1.cells[2]? = some (.slice d1.s0.la d1.s0.ln d1.s0.lc) from rfl)
           have gg1 := soft_blk X2.out.1 2
           clear ho hg hn)
        | (refine step_call_d _ (by rfl) 83 (by rfl) 68 [.const (.slice none 0 0), .tmp 82] _ (by rfl) [.slice none 0 0, .agg #[.bool false, .slice a n c]] (by simp [Act.eval, Act.put]) (enter68 _ _) ((laid none 0 0 [] a n c l WA.drew (Reads.nil _) (RR.out.kept' KD.out (fun _ _ z => z)) (by rw [Nat.zero_add]; exact hlL)).mono ?_); rintro x w1 ⟨p1, k1, rfl, o1, K1⟩; refine ⟨_, rfl, ?_⟩
           rw [Nat.zero_add] at o1 ⊢
           rw [List.nil_append] at o1
           have X1 : Hid (w1.ownsRow WA.heap.size 5 1 (.slice p1 n k1) n (cellsOf l) ∧ Kept (fun _ => False) WA w1) := ⟨o1, KD.out.trans K1 (fun _ _ z => z)⟩
           have e2 : w1.cell? ⟨B, 2, none⟩ = some (.slice d1.s0.la d1.s0.ln d1.s0.lc) := X1.out.2.cell g2 (fun z => z)
           have e3 : (w1.alloc (.cells #[.bool false, .slice p1 n k1] 95)).cell? ⟨B, 2, none⟩ = some (.slice d1.s0.la d1.s0.ln d1.s0.lc) := (alloc_kept0 w1 _).cell e2 (fun z => z)
           have hB1 : B < w1.heap.size := by have := X1.out.2.size; omega
           have EL : Hid (∀ Y : World, Kept (fun _ => False) w1 Y → RA.Good Y ⟨some l, p1, n, k1⟩ ∧ (∀ k, blockOf p1 = some k → WA.heap.size ≤ k ∧ k < Y.heap.size)) := fun Y KY => by
             refine ⟨⟨fun z => by simp at z, fun l' hl' => ?_⟩, fun k hk => ?_⟩
             · simp at hl'
               subst hl'
               exact ⟨by omega, (owned_reads' X1.out.1 RR.out.bytes).kept' KY (fun _ _ z => z)⟩
             · have := own_lt X1.out.1 k hk
               have := KY.size
               omega
           clear o1 K1)
        | fail)
    all_goals go_wp2_with fail
    all_goals go_ret
    all_goals exact ⟨rfl, _, X2.out.2.1, Q.out.2.1.trans X2.out.2.2, by rw [ab_more0]; show _ = d1.ab.add 0 l; unfold AB.add; rw [if_neg (by omega)]⟩
set_option maxRecDepth 100000 in
set_option maxHeartbeats 4000000 in
theorem rA_1_0_2 (base B : Nat) (d : RK) (a : Option Addr) (n c : Nat) (l : List Nat) (w : World) (h : IsR base w B d) (ok : d.ab.Ok) (hd : d.dead = false) (hN : d.named = 1) (hdn : d.done = true) (r : Reads w a n c l) (hn : n ≤ Lim) (hrB : 0 < n → ∀ k, blockOf a = some k → k ≠ B) :
    Calls Try.prog 70 #[.pointer (some ⟨B, 0, none⟩), .int .i64 1, .int .i64 0, .slice a n c] w fun x w' => x = .returned (.int .i64 60) ∧ ∃ d', IsR base w' B d' ∧ RM w w' B d d' ∧ d'.ab = d.ab.stopped.counted.put 1 0 l := by
  have hlen := r.length
  have hlL : n ≤ 140737488355328 := by unfold Lim at hn; omega
  by_cases hn0 : n = 0
  · subst hn0
    have hl0 : l = [] := List.eq_nil_of_length_eq_zero hlen
    subst hl0
    have c8 : w.cell? ⟨B, 8, none⟩ = some (.bool false) := by rw [← hd]; exact h.cell 8 rfl
    have c5 : w.cell? ⟨B, 5, none⟩ = some (.int .i64 (d.acts : Int)) := h.cell 5 rfl
    have s5 := h.soft 5
    have oa : d.acts + 1 ≤ Lim := ok.acts
    unfold Lim at oa
    obtain ⟨m, hm⟩ : ∃ m, d.acts + 1 = m := ⟨_, rfl⟩
    have wa : IntKind.i64.wrap ((d.acts : Int) + 1) = (m : Int) := by rw [IntKind.wrap_i64]; omega
    have LO : Hid (base ≤ w.heap.size) := by have := h.low; have := block_lt h.blk; show base ≤ w.heap.size; omega
    have c6 : w.cell? ⟨B, 6, none⟩ = some (.int .i64 1) := by rw [← hN]; exact h.cell 6 rfl
    have c7 : w.cell? ⟨B, 7, none⟩ = some (.bool true) := by rw [← hdn]; exact h.cell 7 rfl
    have s6 := h.soft 6
    have s8 := h.soft 8
    have wz : IntKind.i64.wrap (1 - 1) = 0 := by decide
    have wz' : IntKind.i64.wrap 0 = 0 := by decide
    obtain ⟨d1, hd1⟩ : ∃ d1 : RK, d1 = { d with named := 0, dead := true, acts := m } := ⟨_, rfl⟩
    obtain ⟨p1, p2⟩ := h.put (d' := { d with named := 0 }) 6 (.int .i64 0) rfl rfl rfl h.two
    obtain ⟨t1, t2⟩ := p1.put (d' := { d with named := 0, dead := true }) 8 (.bool true) rfl rfl rfl h.two
    obtain ⟨q1, q2⟩ := t1.put (d' := d1) 5 (.int .i64 (m : Int)) (by rw [hd1]) (by rw [hd1]) (by rw [hd1]; rfl) (by rw [hd1]; exact h.two)
    obtain ⟨WA, hWA⟩ : ∃ WA, WA = ((w.setCell ⟨B, 6, none⟩ (.int .i64 0)).setCell ⟨B, 8, none⟩ (.bool true)).setCell ⟨B, 5, none⟩ (.int .i64 (m : Int)) := ⟨_, rfl⟩
    rw [← hWA] at q1 q2
    have q2 := (p2.trans t2).trans q2
    have ea : d1.ab = d.ab.stopped.counted := by rw [hd1, ← hm]; rfl
    clear p1 p2 t1 t2
    have EW : Hid (WA = ((w.setCell ⟨B, 6, none⟩ (.int .i64 0)).setCell ⟨B, 8, none⟩ (.bool true)).setCell ⟨B, 5, none⟩ (.int .i64 (m : Int))) := hWA
    have Q : Hid (IsR base WA B d1 ∧ RM w WA B d d1 ∧ base ≤ WA.heap.size ∧ d1.ab.Ok' d.ab) := ⟨q1, q2, Nat.le_trans LO.out q2.kept.size, by rw [hd1]; exact ⟨ok.w0, ok.w1, ok.n0, ok.n1⟩⟩
    rw [← ea]
    clear h ok hd hN hWA q1 q2 oa hm hd1 ea  hdn  r hn
    go_enter Try.func70, Try.ntmps70
    go_upto_region 15 with fail
    rw [← EW.out]
    clear c8 c5 s5 wa c6 c7 s6 s8 wz wz'  
    go_wp2_with fail
    go_ret
    exact ⟨rfl, _, Q.out.1, Q.out.2.1, rfl⟩
  · have n0 : (n : Int) > 0 := by omega
    have n1 : 0 < n := by omega
    have c8 : w.cell? ⟨B, 8, none⟩ = some (.bool false) := by rw [← hd]; exact h.cell 8 rfl
    have c5 : w.cell? ⟨B, 5, none⟩ = some (.int .i64 (d.acts : Int)) := h.cell 5 rfl
    have s5 := h.soft 5
    have oa : d.acts + 1 ≤ Lim := ok.acts
    unfold Lim at oa
    obtain ⟨m, hm⟩ : ∃ m, d.acts + 1 = m := ⟨_, rfl⟩
    have wa : IntKind.i64.wrap ((d.acts : Int) + 1) = (m : Int) := by rw [IntKind.wrap_i64]; omega
    have LO : Hid (base ≤ w.heap.size) := by have := h.low; have := block_lt h.blk; show base ≤ w.heap.size; omega
    have c6 : w.cell? ⟨B, 6, none⟩ = some (.int .i64 1) := by rw [← hN]; exact h.cell 6 rfl
    have c7 : w.cell? ⟨B, 7, none⟩ = some (.bool true) := by rw [← hdn]; exact h.cell 7 rfl
    have s6 := h.soft 6
    have s8 := h.soft 8
    have wz : IntKind.i64.wrap (1 - 1) = 0 := by decide
    have wz' : IntKind.i64.wrap 0 = 0 := by decide
    obtain ⟨d1, hd1⟩ : ∃ d1 : RK, d1 = { d with named := 0, dead := true, acts := m } := ⟨_, rfl⟩
    obtain ⟨p1, p2⟩ := h.put (d' := { d with named := 0 }) 6 (.int .i64 0) rfl rfl rfl h.two
    obtain ⟨t1, t2⟩ := p1.put (d' := { d with named := 0, dead := true }) 8 (.bool true) rfl rfl rfl h.two
    obtain ⟨q1, q2⟩ := t1.put (d' := d1) 5 (.int .i64 (m : Int)) (by rw [hd1]) (by rw [hd1]) (by rw [hd1]; rfl) (by rw [hd1]; exact h.two)
    obtain ⟨WA, hWA⟩ : ∃ WA, WA = ((w.setCell ⟨B, 6, none⟩ (.int .i64 0)).setCell ⟨B, 8, none⟩ (.bool true)).setCell ⟨B, 5, none⟩ (.int .i64 (m : Int)) := ⟨_, rfl⟩
    rw [← hWA] at q1 q2
    have q2 := (p2.trans t2).trans q2
    have ea : d1.ab = d.ab.stopped.counted := by rw [hd1, ← hm]; rfl
    clear p1 p2 t1 t2
    have EW : Hid (WA = ((w.setCell ⟨B, 6, none⟩ (.int .i64 0)).setCell ⟨B, 8, none⟩ (.bool true)).setCell ⟨B, 5, none⟩ (.int .i64 (m : Int))) := hWA
    have Q : Hid (IsR base WA B d1 ∧ RM w WA B d d1 ∧ base ≤ WA.heap.size ∧ d1.ab.Ok' d.ab) := ⟨q1, q2, Nat.le_trans LO.out q2.kept.size, by rw [hd1]; exact ⟨ok.w0, ok.w1, ok.n0, ok.n1⟩⟩
    have RR : Hid (Reads WA a n c l) := by
      have hz : ∀ k, blockOf a = some k → k < w.heap.size := fun k hk => by
        obtain ⟨b, off, e, hcl⟩ := r.cells n1
        rw [e] at hk
        simp [blockOf] at hk
        subst hk
        exact World.block_lt_of_cell? w ⟨b, off + 0, none⟩ (hcl 0 n1)
      exact r.off (show Kept (fun k => k = B) w WA from by rw [hWA]; exact (((Kept.refl (fun k => k = B) w).setCell (p := ⟨B, 6, none⟩) (fun _ => rfl) _).setCell (p := ⟨B, 8, none⟩) (fun _ => rfl) _).setCell (p := ⟨B, 5, none⟩) (fun _ => rfl) _) (fun k hk z => hrB n1 k hk z)
    rw [← ea]
    clear h ok hd hN hWA q1 q2 oa hm hd1 ea  hdn  hn r hn0
    go_enter Try.func70, Try.ntmps70
    go_upto_region 15 with fail
    rw [← EW.out]
    clear c8 c5 s5 wa c6 c7 s6 s8 wz wz'  
    have LN : Hid (d1.s0.ln + 1 ≤ Lim) := by have h1 := Q.out.2.2.2.n0; have h2 : d1.ab.X0.length = d1.s0.ln := Q.out.1.z0.xlen; show d1.s0.ln + 1 ≤ Lim; omega
    have g2 : WA.cell? ⟨B, 2, none⟩ = some (.slice d1.s0.la d1.s0.ln d1.s0.lc) := Q.out.1.cell 2 rfl
    have hBW : B < WA.heap.size := block_lt Q.out.1.blk
    have KD : Hid (Kept (fun _ => False) WA WA.drew) := (Kept.refl (fun _ => False) WA).drew
    go_upto_region 18 with fail
    go_region_law
      (first
        | (refine step_append_d _ (by rfl) 86 (by rfl) (.tmp 80) (.tmp 85) 79 95 79 _ 2 32 (by rfl) Try.underlying79 Try.info95 rfl base (.slice d1.s0.la d1.s0.ln d1.s0.lc) d1.s0.ln (rcells d1.s0.L) (by rfl) (Q.out.1.kept0 (by repeat (first | with_reducible exact Kept.refl _ _ | with_reducible exact X1.out.2 | with_reducible refine Kept.drew ?_ | with_reducible refine Kept.alloc ?_ _))).z0.lown _ 1 (RA.cells ⟨some l, p1, n, k1⟩) (by rfl) (src_ra (v := .bool false) (u := .slice p1 n k1) (by repeat (first | with_reducible exact alloc_new _ _ | with_reducible exact alloc_newD _ _ _ | with_reducible refine get_drew ?_ | with_reducible refine get_alloc ?_)) rfl rfl) (lim_max LN.out) (lim_wide32 LN.out) (Nat.le_trans Q.out.2.2.1 (show Kept (fun _ => False) WA _ from (by repeat (first | with_reducible exact Kept.refl _ _ | with_reducible exact X1.out.2 | with_reducible refine Kept.drew ?_ | with_reducible refine Kept.alloc ?_ _))).size) ?_; intro p2 c2 w2 ho hg hn
           have X2 : Hid (w2.heap[B]? = some (.cells d1.cells 82 (0, 0)) ∧ IsR base (w2.setCell ⟨B, 2, none⟩ (.slice p2 (d1.s0.ln + 1) c2)) B { d1 with s0 := { d1.s0 with la := p2, ln := d1.s0.ln + 1, lc := c2, L := d1.s0.L ++ [⟨some l, p1, n, k1⟩] } } ∧ RM WA (w2.setCell ⟨B, 2, none⟩ (.slice p2 (d1.s0.ln + 1) c2)) B d1 { d1 with s0 := { d1.s0 with la := p2, ln := d1.s0.ln + 1, lc := c2, L := d1.s0.L ++ [⟨some l, p1, n, k1⟩] } }) := Q.out.1.more0 (by repeat (first | with_reducible exact Kept.refl _ _ | with_reducible exact X1.out.2 | with_reducible refine Kept.drew ?_ | with_reducible refine Kept.alloc ?_ _)) (EL.out _ (by repeat (first | with_reducible exact Kept.refl _ _ | with_reducible refine Kept.drew ?_ | with_reducible refine Kept.alloc ?_ _))).1 (EL.out _ (by repeat (first | with_reducible exact Kept.refl _ _ | with_reducible refine Kept.drew ?_ | with_reducible refine Kept.alloc ?_ _))).2 ho.out hg.out hn.out
           have dd1 := cell_blk X2.out.1 2 (show d1.cells[2]? = some (.slice d1.s0.la d1.s0.ln d1.s0.lc) from rfl)
           have gg1 := soft_blk X2.out.1 2
           clear ho hg hn)
        | (refine step_call_d _ (by rfl) 83 (by rfl) 68 [.const (.slice none 0 0), .tmp 82] _ (by rfl) [.slice none 0 0, .agg #[.bool false, .slice a n c]] (by simp [Act.eval, Act.put]) (enter68 _ _) ((laid none 0 0 [] a n c l WA.drew (Reads.nil _) (RR.out.kept' KD.out (fun _ _ z => z)) (by rw [Nat.zero_add]; exact hlL)).mono ?_); rintro x w1 ⟨p1, k1, rfl, o1, K1⟩; refine ⟨_, rfl, ?_⟩
           rw [Nat.zero_add] at o1 ⊢
           rw [List.nil_append] at o1
           have X1 : Hid (w1.ownsRow WA.heap.size 5 1 (.slice p1 n k1) n (cellsOf l) ∧ Kept (fun _ => False) WA w1) := ⟨o1, KD.out.trans K1 (fun _ _ z => z)⟩
           have e2 : w1.cell? ⟨B, 2, none⟩ = some (.slice d1.s0.la d1.s0.ln d1.s0.lc) := X1.out.2.cell g2 (fun z => z)
           have e3 : (w1.alloc (.cells #[.bool false, .slice p1 n k1] 95)).cell? ⟨B, 2, none⟩ = some (.slice d1.s0.la d1.s0.ln d1.s0.lc) := (alloc_kept0 w1 _).cell e2 (fun z => z)
           have hB1 : B < w1.heap.size := by have := X1.out.2.size; omega
           have EL : Hid (∀ Y : World, Kept (fun _ => False) w1 Y → RA.Good Y ⟨some l, p1, n, k1⟩ ∧ (∀ k, blockOf p1 = some k → WA.heap.size ≤ k ∧ k < Y.heap.size)) := fun Y KY => by
             refine ⟨⟨fun z => by simp at z, fun l' hl' => ?_⟩, fun k hk => ?_⟩
             · simp at hl'
               subst hl'
               exact ⟨by omega, (owned_reads' X1.out.1 RR.out.bytes).kept' KY (fun _ _ z => z)⟩
             · have := own_lt X1.out.1 k hk
               have := KY.size
               omega
           clear o1 K1)
        | fail)
    all_goals go_wp2_with fail
    all_goals go_ret
    all_goals exact ⟨rfl, _, X2.out.2.1, Q.out.2.1.trans X2.out.2.2, by rw [ab_more0]; show _ = d1.ab.add 0 l; unfold AB.add; rw [if_neg (by omega)]⟩
set_option maxRecDepth 100000 in
set_option maxHeartbeats 4000000 in
theorem rA_1_1_0 (base B : Nat) (d : RK) (a : Option Addr) (n c : Nat) (l : List Nat) (w : World) (h : IsR base w B d) (ok : d.ab.Ok) (hd : d.dead = false) (hN : d.named = 0) (r : Reads w a n c l) (hn : n ≤ Lim) (hrB : 0 < n → ∀ k, blockOf a = some k → k ≠ B) :
    Calls Try.prog 70 #[.pointer (some ⟨B, 0, none⟩), .int .i64 1, .int .i64 1, .slice a n c] w fun x w' => x = .returned (.int .i64 0) ∧ ∃ d', IsR base w' B d' ∧ RM w w' B d d' ∧ d'.ab = d.ab.tick.counted.put 1 1 l := by
  have hlen := r.length
  have hlL : n ≤ 140737488355328 := by unfold Lim at hn; omega
  by_cases hn0 : n = 0
  · subst hn0
    have hl0 : l = [] := List.eq_nil_of_length_eq_zero hlen
    subst hl0
    have c8 : w.cell? ⟨B, 8, none⟩ = some (.bool false) := by rw [← hd]; exact h.cell 8 rfl
    have c5 : w.cell? ⟨B, 5, none⟩ = some (.int .i64 (d.acts : Int)) := h.cell 5 rfl
    have s5 := h.soft 5
    have oa : d.acts + 1 ≤ Lim := ok.acts
    unfold Lim at oa
    obtain ⟨m, hm⟩ : ∃ m, d.acts + 1 = m := ⟨_, rfl⟩
    have wa : IntKind.i64.wrap ((d.acts : Int) + 1) = (m : Int) := by rw [IntKind.wrap_i64]; omega
    have LO : Hid (base ≤ w.heap.size) := by have := h.low; have := block_lt h.blk; show base ≤ w.heap.size; omega
    have c6 : w.cell? ⟨B, 6, none⟩ = some (.int .i64 0) := by rw [← hN]; exact h.cell 6 rfl
    obtain ⟨d1, hd1⟩ : ∃ d1 : RK, d1 = { d with acts := m } := ⟨_, rfl⟩
    obtain ⟨q1, q2⟩ := h.put (d' := d1) 5 (.int .i64 (m : Int)) (by rw [hd1]) (by rw [hd1]) (by rw [hd1]; rfl) (by rw [hd1]; exact h.two)
    obtain ⟨WA, hWA⟩ : ∃ WA, WA = w.setCell ⟨B, 5, none⟩ (.int .i64 (m : Int)) := ⟨_, rfl⟩
    rw [← hWA] at q1 q2
    have ea : d1.ab = d.ab.tick.counted := by rw [tick_free (show d.ab.named = 0 from hN), hd1, ← hm]; rfl
    have EW : Hid (WA = w.setCell ⟨B, 5, none⟩ (.int .i64 (m : Int))) := hWA
    have Q : Hid (IsR base WA B d1 ∧ RM w WA B d d1 ∧ base ≤ WA.heap.size ∧ d1.ab.Ok' d.ab) := ⟨q1, q2, Nat.le_trans LO.out q2.kept.size, by rw [hd1]; exact ⟨ok.w0, ok.w1, ok.n0, ok.n1⟩⟩
    rw [← ea]
    clear h ok hd hN hWA q1 q2 oa hm hd1 ea    r hn
    go_enter Try.func70, Try.ntmps70
    go_upto_region 15 with fail
    rw [← EW.out]
    clear c8 c5 s5 wa c6   
    go_wp2_with fail
    go_ret
    exact ⟨rfl, _, Q.out.1, Q.out.2.1, rfl⟩
  · have n0 : (n : Int) > 0 := by omega
    have n1 : 0 < n := by omega
    have c8 : w.cell? ⟨B, 8, none⟩ = some (.bool false) := by rw [← hd]; exact h.cell 8 rfl
    have c5 : w.cell? ⟨B, 5, none⟩ = some (.int .i64 (d.acts : Int)) := h.cell 5 rfl
    have s5 := h.soft 5
    have oa : d.acts + 1 ≤ Lim := ok.acts
    unfold Lim at oa
    obtain ⟨m, hm⟩ : ∃ m, d.acts + 1 = m := ⟨_, rfl⟩
    have wa : IntKind.i64.wrap ((d.acts : Int) + 1) = (m : Int) := by rw [IntKind.wrap_i64]; omega
    have LO : Hid (base ≤ w.heap.size) := by have := h.low; have := block_lt h.blk; show base ≤ w.heap.size; omega
    have c6 : w.cell? ⟨B, 6, none⟩ = some (.int .i64 0) := by rw [← hN]; exact h.cell 6 rfl
    obtain ⟨d1, hd1⟩ : ∃ d1 : RK, d1 = { d with acts := m } := ⟨_, rfl⟩
    obtain ⟨q1, q2⟩ := h.put (d' := d1) 5 (.int .i64 (m : Int)) (by rw [hd1]) (by rw [hd1]) (by rw [hd1]; rfl) (by rw [hd1]; exact h.two)
    obtain ⟨WA, hWA⟩ : ∃ WA, WA = w.setCell ⟨B, 5, none⟩ (.int .i64 (m : Int)) := ⟨_, rfl⟩
    rw [← hWA] at q1 q2
    have ea : d1.ab = d.ab.tick.counted := by rw [tick_free (show d.ab.named = 0 from hN), hd1, ← hm]; rfl
    have EW : Hid (WA = w.setCell ⟨B, 5, none⟩ (.int .i64 (m : Int))) := hWA
    have Q : Hid (IsR base WA B d1 ∧ RM w WA B d d1 ∧ base ≤ WA.heap.size ∧ d1.ab.Ok' d.ab) := ⟨q1, q2, Nat.le_trans LO.out q2.kept.size, by rw [hd1]; exact ⟨ok.w0, ok.w1, ok.n0, ok.n1⟩⟩
    have RR : Hid (Reads WA a n c l) := by
      have hz : ∀ k, blockOf a = some k → k < w.heap.size := fun k hk => by
        obtain ⟨b, off, e, hcl⟩ := r.cells n1
        rw [e] at hk
        simp [blockOf] at hk
        subst hk
        exact World.block_lt_of_cell? w ⟨b, off + 0, none⟩ (hcl 0 n1)
      exact r.off (show Kept (fun k => k = B) w WA from by rw [hWA]; exact (Kept.refl (fun k => k = B) w).setCell (p := ⟨B, 5, none⟩) (fun _ => rfl) _) (fun k hk z => hrB n1 k hk z)
    rw [← ea]
    clear h ok hd hN hWA q1 q2 oa hm hd1 ea    hn r hn0
    go_enter Try.func70, Try.ntmps70
    go_upto_region 15 with fail
    rw [← EW.out]
    clear c8 c5 s5 wa c6   
    have LN : Hid (d1.s1.ln + 1 ≤ Lim) := by have h1 := Q.out.2.2.2.n1; have h2 : d1.ab.X1.length = d1.s1.ln := Q.out.1.z1.xlen; show d1.s1.ln + 1 ≤ Lim; omega
    have g2 : WA.cell? ⟨B, 3, none⟩ = some (.slice d1.s1.la d1.s1.ln d1.s1.lc) := Q.out.1.cell 3 rfl
    have hBW : B < WA.heap.size := block_lt Q.out.1.blk
    have KD : Hid (Kept (fun _ => False) WA WA.drew) := (Kept.refl (fun _ => False) WA).drew
    go_upto_region 18 with fail
    go_region_law
      (first
        | (refine step_append_d _ (by rfl) 86 (by rfl) (.tmp 80) (.tmp 85) 79 95 79 _ 2 32 (by rfl) Try.underlying79 Try.info95 rfl base (.slice d1.s1.la d1.s1.ln d1.s1.lc) d1.s1.ln (rcells d1.s1.L) (by rfl) (Q.out.1.kept0 (by repeat (first | with_reducible exact Kept.refl _ _ | with_reducible exact X1.out.2 | with_reducible refine Kept.drew ?_ | with_reducible refine Kept.alloc ?_ _))).z1.lown _ 1 (RA.cells ⟨some l, p1, n, k1⟩) (by rfl) (src_ra (v := .bool false) (u := .slice p1 n k1) (by repeat (first | with_reducible exact alloc_new _ _ | with_reducible exact alloc_newD _ _ _ | with_reducible refine get_drew ?_ | with_reducible refine get_alloc ?_)) rfl rfl) (lim_max LN.out) (lim_wide32 LN.out) (Nat.le_trans Q.out.2.2.1 (show Kept (fun _ => False) WA _ from (by repeat (first | with_reducible exact Kept.refl _ _ | with_reducible exact X1.out.2 | with_reducible refine Kept.drew ?_ | with_reducible refine Kept.alloc ?_ _))).size) ?_; intro p2 c2 w2 ho hg hn
           have X2 : Hid (w2.heap[B]? = some (.cells d1.cells 82 (0, 0)) ∧ IsR base (w2.setCell ⟨B, 3, none⟩ (.slice p2 (d1.s1.ln + 1) c2)) B { d1 with s1 := { d1.s1 with la := p2, ln := d1.s1.ln + 1, lc := c2, L := d1.s1.L ++ [⟨some l, p1, n, k1⟩] } } ∧ RM WA (w2.setCell ⟨B, 3, none⟩ (.slice p2 (d1.s1.ln + 1) c2)) B d1 { d1 with s1 := { d1.s1 with la := p2, ln := d1.s1.ln + 1, lc := c2, L := d1.s1.L ++ [⟨some l, p1, n, k1⟩] } }) := Q.out.1.more1 (by repeat (first | with_reducible exact Kept.refl _ _ | with_reducible exact X1.out.2 | with_reducible refine Kept.drew ?_ | with_reducible refine Kept.alloc ?_ _)) (EL.out _ (by repeat (first | with_reducible exact Kept.refl _ _ | with_reducible refine Kept.drew ?_ | with_reducible refine Kept.alloc ?_ _))).1 (EL.out _ (by repeat (first | with_reducible exact Kept.refl _ _ | with_reducible refine Kept.drew ?_ | with_reducible refine Kept.alloc ?_ _))).2 ho.out hg.out hn.out
           have dd1 := cell_blk X2.out.1 3 (show d1.cells[3]? = some (.slice d1.s1.la d1.s1.ln d1.s1.lc) from rfl)
           have gg1 := soft_blk X2.out.1 3
           clear ho hg hn)
        | (refine step_call_d _ (by rfl) 83 (by rfl) 68 [.const (.slice none 0 0), .tmp 82] _ (by rfl) [.slice none 0 0, .agg #[.bool false, .slice a n c]] (by simp [Act.eval, Act.put]) (enter68 _ _) ((laid none 0 0 [] a n c l WA.drew (Reads.nil _) (RR.out.kept' KD.out (fun _ _ z => z)) (by rw [Nat.zero_add]; exact hlL)).mono ?_); rintro x w1 ⟨p1, k1, rfl, o1, K1⟩; refine ⟨_, rfl, ?_⟩
           rw [Nat.zero_add] at o1 ⊢
           rw [List.nil_append] at o1
           have X1 : Hid (w1.ownsRow WA.heap.size 5 1 (.slice p1 n k1) n (cellsOf l) ∧ Kept (fun _ => False) WA w1) := ⟨o1, KD.out.trans K1 (fun _ _ z => z)⟩
           have e2 : w1.cell? ⟨B, 3, none⟩ = some (.slice d1.s1.la d1.s1.ln d1.s1.lc) := X1.out.2.cell g2 (fun z => z)
           have e3 : (w1.alloc (.cells #[.bool false, .slice p1 n k1] 95)).cell? ⟨B, 3, none⟩ = some (.slice d1.s1.la d1.s1.ln d1.s1.lc) := (alloc_kept0 w1 _).cell e2 (fun z => z)
           have hB1 : B < w1.heap.size := by have := X1.out.2.size; omega
           have EL : Hid (∀ Y : World, Kept (fun _ => False) w1 Y → RA.Good Y ⟨some l, p1, n, k1⟩ ∧ (∀ k, blockOf p1 = some k → WA.heap.size ≤ k ∧ k < Y.heap.size)) := fun Y KY => by
             refine ⟨⟨fun z => by simp at z, fun l' hl' => ?_⟩, fun k hk => ?_⟩
             · simp at hl'
               subst hl'
               exact ⟨by omega, (owned_reads' X1.out.1 RR.out.bytes).kept' KY (fun _ _ z => z)⟩
             · have := own_lt X1.out.1 k hk
               have := KY.size
               omega
           clear o1 K1)
        | fail)
    all_goals go_wp2_with fail
    all_goals go_ret
    all_goals exact ⟨rfl, _, X2.out.2.1, Q.out.2.1.trans X2.out.2.2, by rw [ab_more1]; show _ = d1.ab.add 1 l; unfold AB.add; rw [if_neg (by omega)]⟩
set_option maxRecDepth 100000 in
set_option maxHeartbeats 4000000 in
theorem rA_1_1_1 (base B : Nat) (d : RK) (a : Option Addr) (n c : Nat) (l : List Nat) (w : World) (h : IsR base w B d) (ok : d.ab.Ok) (hd : d.dead = false) (hN : 1 < d.named) (hN2 : d.named < 9223372036854775808) (r : Reads w a n c l) (hn : n ≤ Lim) (hrB : 0 < n → ∀ k, blockOf a = some k → k ≠ B) :
    Calls Try.prog 70 #[.pointer (some ⟨B, 0, none⟩), .int .i64 1, .int .i64 1, .slice a n c] w fun x w' => x = .returned (.int .i64 0) ∧ ∃ d', IsR base w' B d' ∧ RM w w' B d d' ∧ d'.ab = d.ab.tick.counted.put 1 1 l := by
  have hlen := r.length
  have hlL : n ≤ 140737488355328 := by unfold Lim at hn; omega
  by_cases hn0 : n = 0
  · subst hn0
    have hl0 : l = [] := List.eq_nil_of_length_eq_zero hlen
    subst hl0
    have c8 : w.cell? ⟨B, 8, none⟩ = some (.bool false) := by rw [← hd]; exact h.cell 8 rfl
    have c5 : w.cell? ⟨B, 5, none⟩ = some (.int .i64 (d.acts : Int)) := h.cell 5 rfl
    have s5 := h.soft 5
    have oa : d.acts + 1 ≤ Lim := ok.acts
    unfold Lim at oa
    obtain ⟨m, hm⟩ : ∃ m, d.acts + 1 = m := ⟨_, rfl⟩
    have wa : IntKind.i64.wrap ((d.acts : Int) + 1) = (m : Int) := by rw [IntKind.wrap_i64]; omega
    have LO : Hid (base ≤ w.heap.size) := by have := h.low; have := block_lt h.blk; show base ≤ w.heap.size; omega
    have c6 : w.cell? ⟨B, 6, none⟩ = some (.int .i64 d.named) := h.cell 6 rfl
    have s6 := h.soft 6
    obtain ⟨nv, hnv⟩ : ∃ nv, nv = d.named := ⟨_, rfl⟩
    rw [← hnv] at c6
    have nv0 : nv > 0 := by omega
    have nv1 : ¬ nv = 1 := by omega
    obtain ⟨nw, hnw⟩ : ∃ nw : Int, nw = nv - 1 := ⟨_, rfl⟩
    have wn : IntKind.i64.wrap (nv - 1) = nw := by rw [IntKind.wrap_i64]; omega
    obtain ⟨d1, hd1⟩ : ∃ d1 : RK, d1 = { d with named := nw, acts := m } := ⟨_, rfl⟩
    obtain ⟨p1, p2⟩ := h.put (d' := { d with named := nw }) 6 (.int .i64 nw) rfl rfl rfl h.two
    obtain ⟨q1, q2⟩ := p1.put (d' := d1) 5 (.int .i64 (m : Int)) (by rw [hd1]) (by rw [hd1]) (by rw [hd1]; rfl) (by rw [hd1]; exact h.two)
    obtain ⟨WA, hWA⟩ : ∃ WA, WA = (w.setCell ⟨B, 6, none⟩ (.int .i64 nw)).setCell ⟨B, 5, none⟩ (.int .i64 (m : Int)) := ⟨_, rfl⟩
    rw [← hWA] at q1 q2
    have q2 := p2.trans q2
    have ea : d1.ab = d.ab.tick.counted := by
      rw [hd1, ← hm]
      show _ = (AB.tick d.ab).counted
      unfold AB.tick
      rw [show d.ab.named = nv from hnv.symm, if_neg (by omega), ← hnw]
      rfl
    clear p1 p2 hnw hnv
    have EW : Hid (WA = (w.setCell ⟨B, 6, none⟩ (.int .i64 nw)).setCell ⟨B, 5, none⟩ (.int .i64 (m : Int))) := hWA
    have Q : Hid (IsR base WA B d1 ∧ RM w WA B d d1 ∧ base ≤ WA.heap.size ∧ d1.ab.Ok' d.ab) := ⟨q1, q2, Nat.le_trans LO.out q2.kept.size, by rw [hd1]; exact ⟨ok.w0, ok.w1, ok.n0, ok.n1⟩⟩
    rw [← ea]
    clear h ok hd hN hWA q1 q2 oa hm hd1 ea hN2   r hn
    go_enter Try.func70, Try.ntmps70
    go_upto_region 15 with fail
    rw [← EW.out]
    clear c8 c5 s5 wa c6  s6 nv0 wn 
    go_wp2_with fail
    go_ret
    exact ⟨rfl, _, Q.out.1, Q.out.2.1, rfl⟩
  · have n0 : (n : Int) > 0 := by omega
    have n1 : 0 < n := by omega
    have c8 : w.cell? ⟨B, 8, none⟩ = some (.bool false) := by rw [← hd]; exact h.cell 8 rfl
    have c5 : w.cell? ⟨B, 5, none⟩ = some (.int .i64 (d.acts : Int)) := h.cell 5 rfl
    have s5 := h.soft 5
    have oa : d.acts + 1 ≤ Lim := ok.acts
    unfold Lim at oa
    obtain ⟨m, hm⟩ : ∃ m, d.acts + 1 = m := ⟨_, rfl⟩
    have wa : IntKind.i64.wrap ((d.acts : Int) + 1) = (m : Int) := by rw [IntKind.wrap_i64]; omega
    have LO : Hid (base ≤ w.heap.size) := by have := h.low; have := block_lt h.blk; show base ≤ w.heap.size; omega
    have c6 : w.cell? ⟨B, 6, none⟩ = some (.int .i64 d.named) := h.cell 6 rfl
    have s6 := h.soft 6
    obtain ⟨nv, hnv⟩ : ∃ nv, nv = d.named := ⟨_, rfl⟩
    rw [← hnv] at c6
    have nv0 : nv > 0 := by omega
    have nv1 : ¬ nv = 1 := by omega
    obtain ⟨nw, hnw⟩ : ∃ nw : Int, nw = nv - 1 := ⟨_, rfl⟩
    have wn : IntKind.i64.wrap (nv - 1) = nw := by rw [IntKind.wrap_i64]; omega
    obtain ⟨d1, hd1⟩ : ∃ d1 : RK, d1 = { d with named := nw, acts := m } := ⟨_, rfl⟩
    obtain ⟨p1, p2⟩ := h.put (d' := { d with named := nw }) 6 (.int .i64 nw) rfl rfl rfl h.two
    obtain ⟨q1, q2⟩ := p1.put (d' := d1) 5 (.int .i64 (m : Int)) (by rw [hd1]) (by rw [hd1]) (by rw [hd1]; rfl) (by rw [hd1]; exact h.two)
    obtain ⟨WA, hWA⟩ : ∃ WA, WA = (w.setCell ⟨B, 6, none⟩ (.int .i64 nw)).setCell ⟨B, 5, none⟩ (.int .i64 (m : Int)) := ⟨_, rfl⟩
    rw [← hWA] at q1 q2
    have q2 := p2.trans q2
    have ea : d1.ab = d.ab.tick.counted := by
      rw [hd1, ← hm]
      show _ = (AB.tick d.ab).counted
      unfold AB.tick
      rw [show d.ab.named = nv from hnv.symm, if_neg (by omega), ← hnw]
      rfl
    clear p1 p2 hnw hnv
    have EW : Hid (WA = (w.setCell ⟨B, 6, none⟩ (.int .i64 nw)).setCell ⟨B, 5, none⟩ (.int .i64 (m : Int))) := hWA
    have Q : Hid (IsR base WA B d1 ∧ RM w WA B d d1 ∧ base ≤ WA.heap.size ∧ d1.ab.Ok' d.ab) := ⟨q1, q2, Nat.le_trans LO.out q2.kept.size, by rw [hd1]; exact ⟨ok.w0, ok.w1, ok.n0, ok.n1⟩⟩
    have RR : Hid (Reads WA a n c l) := by
      have hz : ∀ k, blockOf a = some k → k < w.heap.size := fun k hk => by
        obtain ⟨b, off, e, hcl⟩ := r.cells n1
        rw [e] at hk
        simp [blockOf] at hk
        subst hk
        exact World.block_lt_of_cell? w ⟨b, off + 0, none⟩ (hcl 0 n1)
      exact r.off (show Kept (fun k => k = B) w WA from by rw [hWA]; exact ((Kept.refl (fun k => k = B) w).setCell (p := ⟨B, 6, none⟩) (fun _ => rfl) _).setCell (p := ⟨B, 5, none⟩) (fun _ => rfl) _) (fun k hk z => hrB n1 k hk z)
    rw [← ea]
    clear h ok hd hN hWA q1 q2 oa hm hd1 ea hN2   hn r hn0
    go_enter Try.func70, Try.ntmps70
    go_upto_region 15 with fail
    rw [← EW.out]
    clear c8 c5 s5 wa c6  s6 nv0 wn 
    have LN : Hid (d1.s1.ln + 1 ≤ Lim) := by have h1 := Q.out.2.2.2.n1; have h2 : d1.ab.X1.length = d1.s1.ln := Q.out.1.z1.xlen; show d1.s1.ln + 1 ≤ Lim; omega
    have g2 : WA.cell? ⟨B, 3, none⟩ = some (.slice d1.s1.la d1.s1.ln d1.s1.lc) := Q.out.1.cell 3 rfl
    have hBW : B < WA.heap.size := block_lt Q.out.1.blk
    have KD : Hid (Kept (fun _ => False) WA WA.drew) := (Kept.refl (fun _ => False) WA).drew
    go_upto_region 18 with fail
    go_region_law
      (first
        | (refine step_append_d _ (by rfl) 86 (by rfl) (.tmp 80) (.tmp 85) 79 95 79 _ 2 32 (by rfl) Try.underlying79 Try.info95 rfl base (.slice d1.s1.la d1.s1.ln d1.s1.lc) d1.s1.ln (rcells d1.s1.L) (by rfl) (Q.out.1.kept0 (by repeat (first | with_reducible exact Kept.refl _ _ | with_reducible exact X1.out.2 | with_reducible refine Kept.drew ?_ | with_reducible refine Kept.alloc ?_ _))).z1.lown _ 1 (RA.cells ⟨some l, p1, n, k1⟩) (by rfl) (src_ra (v := .bool false) (u := .slice p1 n k1) (by repeat (first | with_reducible exact alloc_new _ _ | with_reducible exact alloc_newD _ _ _ | with_reducible refine get_drew ?_ | with_reducible refine get_alloc ?_)) rfl rfl) (lim_max LN.out) (lim_wide32 LN.out) (Nat.le_trans Q.out.2.2.1 (show Kept (fun _ => False) WA _ from (by repeat (first | with_reducible exact Kept.refl _ _ | with_reducible exact X1.out.2 | with_reducible refine Kept.drew ?_ | with_reducible refine Kept.alloc ?_ _))).size) ?_; intro p2 c2 w2 ho hg hn
           have X2 : Hid (w2.heap[B]? = some (.cells d1.cells 82 (0, 0)) ∧ IsR base (w2.setCell ⟨B, 3, none⟩ (.slice p2 (d1.s1.ln + 1) c2)) B { d1 with s1 := { d1.s1 with la := p2, ln := d1.s1.ln + 1, lc := c2, L := d1.s1.L ++ [⟨some l, p1, n, k1⟩] } } ∧ RM WA (w2.setCell ⟨B, 3, none⟩ (.slice p2 (d1.s1.ln + 1) c2)) B d1 { d1 with s1 := { d1.s1 with la := p2, ln := d1.s1.ln + 1, lc := c2, L := d1.s1.L ++ [⟨some l, p1, n, k1⟩] } }) := Q.out.1.more1 (by repeat (first | with_reducible exact Kept.refl _ _ | with_reducible exact X1.out.2 | with_reducible refine Kept.drew ?_ | with_reducible refine Kept.alloc ?_ _)) (EL.out _ (by repeat (first | with_reducible exact Kept.refl _ _ | with_reducible refine Kept.drew ?_ | with_reducible refine Kept.alloc ?_ _))).1 (EL.out _ (by repeat (first | with_reducible exact Kept.refl _ _ | with_reducible refine Kept.drew ?_ | with_reducible refine Kept.alloc ?_ _))).2 ho.out hg.out hn.out
           have dd1 := cell_blk X2.out.1 3 (show d1.cells[3]? = some (.slice d1.s1.la d1.s1.ln d1.s1.lc) from rfl)
           have gg1 := soft_blk X2.out.1 3
           clear ho hg hn)
        | (refine step_call_d _ (by rfl) 83 (by rfl) 68 [.const (.slice none 0 0), .tmp 82] _ (by rfl) [.slice none 0 0, .agg #[.bool false, .slice a n c]] (by simp [Act.eval, Act.put]) (enter68 _ _) ((laid none 0 0 [] a n c l WA.drew (Reads.nil _) (RR.out.kept' KD.out (fun _ _ z => z)) (by rw [Nat.zero_add]; exact hlL)).mono ?_); rintro x w1 ⟨p1, k1, rfl, o1, K1⟩; refine ⟨_, rfl, ?_⟩
           rw [Nat.zero_add] at o1 ⊢
           rw [List.nil_append] at o1
           have X1 : Hid (w1.ownsRow WA.heap.size 5 1 (.slice p1 n k1) n (cellsOf l) ∧ Kept (fun _ => False) WA w1) := ⟨o1, KD.out.trans K1 (fun _ _ z => z)⟩
           have e2 : w1.cell? ⟨B, 3, none⟩ = some (.slice d1.s1.la d1.s1.ln d1.s1.lc) := X1.out.2.cell g2 (fun z => z)
           have e3 : (w1.alloc (.cells #[.bool false, .slice p1 n k1] 95)).cell? ⟨B, 3, none⟩ = some (.slice d1.s1.la d1.s1.ln d1.s1.lc) := (alloc_kept0 w1 _).cell e2 (fun z => z)
           have hB1 : B < w1.heap.size := by have := X1.out.2.size; omega
           have EL : Hid (∀ Y : World, Kept (fun _ => False) w1 Y → RA.Good Y ⟨some l, p1, n, k1⟩ ∧ (∀ k, blockOf p1 = some k → WA.heap.size ≤ k ∧ k < Y.heap.size)) := fun Y KY => by
             refine ⟨⟨fun z => by simp at z, fun l' hl' => ?_⟩, fun k hk => ?_⟩
             · simp at hl'
               subst hl'
               exact ⟨by omega, (owned_reads' X1.out.1 RR.out.bytes).kept' KY (fun _ _ z => z)⟩
             · have := own_lt X1.out.1 k hk
               have := KY.size
               omega
           clear o1 K1)
        | fail)
    all_goals go_wp2_with fail
    all_goals go_ret
    all_goals exact ⟨rfl, _, X2.out.2.1, Q.out.2.1.trans X2.out.2.2, by rw [ab_more1]; show _ = d1.ab.add 1 l; unfold AB.add; rw [if_neg (by omega)]⟩
set_option maxRecDepth 100000 in
set_option maxHeartbeats 4000000 in
theorem rA_1_1_2 (base B : Nat) (d : RK) (a : Option Addr) (n c : Nat) (l : List Nat) (w : World) (h : IsR base w B d) (ok : d.ab.Ok) (hd : d.dead = false) (hN : d.named = 1) (hdn : d.done = true) (r : Reads w a n c l) (hn : n ≤ Lim) (hrB : 0 < n → ∀ k, blockOf a = some k → k ≠ B) :
    Calls Try.prog 70 #[.pointer (some ⟨B, 0, none⟩), .int .i64 1, .int .i64 1, .slice a n c] w fun x w' => x = .returned (.int .i64 60) ∧ ∃ d', IsR base w' B d' ∧ RM w w' B d d' ∧ d'.ab = d.ab.stopped.counted.put 1 1 l := by
  have hlen := r.length
  have hlL : n ≤ 140737488355328 := by unfold Lim at hn; omega
  by_cases hn0 : n = 0
  · subst hn0
    have hl0 : l = [] := List.eq_nil_of_length_eq_zero hlen
    subst hl0
    have c8 : w.cell? ⟨B, 8, none⟩ = some (.bool false) := by rw [← hd]; exact h.cell 8 rfl
    have c5 : w.cell? ⟨B, 5, none⟩ = some (.int .i64 (d.acts : Int)) := h.cell 5 rfl
    have s5 := h.soft 5
    have oa : d.acts + 1 ≤ Lim := ok.acts
    unfold Lim at oa
    obtain ⟨m, hm⟩ : ∃ m, d.acts + 1 = m := ⟨_, rfl⟩
    have wa : IntKind.i64.wrap ((d.acts : Int) + 1) = (m : Int) := by rw [IntKind.wrap_i64]; omega
    have LO : Hid (base ≤ w.heap.size) := by have := h.low; have := block_lt h.blk; show base ≤ w.heap.size; omega
    have c6 : w.cell? ⟨B, 6, none⟩ = some (.int .i64 1) := by rw [← hN]; exact h.cell 6 rfl
    have c7 : w.cell? ⟨B, 7, none⟩ = some (.bool true) := by rw [← hdn]; exact h.cell 7 rfl
    have s6 := h.soft 6
    have s8 := h.soft 8
    have wz : IntKind.i64.wrap (1 - 1) = 0 := by decide
    have wz' : IntKind.i64.wrap 0 = 0 := by decide
    obtain ⟨d1, hd1⟩ : ∃ d1 : RK, d1 = { d with named := 0, dead := true, acts := m } := ⟨_, rfl⟩
    obtain ⟨p1, p2⟩ := h.put (d' := { d with named := 0 }) 6 (.int .i64 0) rfl rfl rfl h.two
    obtain ⟨t1, t2⟩ := p1.put (d' := { d with named := 0, dead := true }) 8 (.bool true) rfl rfl rfl h.two
    obtain ⟨q1, q2⟩ := t1.put (d' := d1) 5 (.int .i64 (m : Int)) (by rw [hd1]) (by rw [hd1]) (by rw [hd1]; rfl) (by rw [hd1]; exact h.two)
    obtain ⟨WA, hWA⟩ : ∃ WA, WA = ((w.setCell ⟨B, 6, none⟩ (.int .i64 0)).setCell ⟨B, 8, none⟩ (.bool true)).setCell ⟨B, 5, none⟩ (.int .i64 (m : Int)) := ⟨_, rfl⟩
    rw [← hWA] at q1 q2
    have q2 := (p2.trans t2).trans q2
    have ea : d1.ab = d.ab.stopped.counted := by rw [hd1, ← hm]; rfl
    clear p1 p2 t1 t2
    have EW : Hid (WA = ((w.setCell ⟨B, 6, none⟩ (.int .i64 0)).setCell ⟨B, 8, none⟩ (.bool true)).setCell ⟨B, 5, none⟩ (.int .i64 (m : Int))) := hWA
    have Q : Hid (IsR base WA B d1 ∧ RM w WA B d d1 ∧ base ≤ WA.heap.size ∧ d1.ab.Ok' d.ab) := ⟨q1, q2, Nat.le_trans LO.out q2.kept.size, by rw [hd1]; exact ⟨ok.w0, ok.w1, ok.n0, ok.n1⟩⟩
    rw [← ea]
    clear h ok hd hN hWA q1 q2 oa hm hd1 ea  hdn  r hn
    go_enter Try.func70, Try.ntmps70
    go_upto_region 15 with fail
    rw [← EW.out]
    clear c8 c5 s5 wa c6 c7 s6 s8 wz wz'  
    go_wp2_with fail
    go_ret
    exact ⟨rfl, _, Q.out.1, Q.out.2.1, rfl⟩
  · have n0 : (n : Int) > 0 := by omega
    have n1 : 0 < n := by omega
    have c8 : w.cell? ⟨B, 8, none⟩ = some (.bool false) := by rw [← hd]; exact h.cell 8 rfl
    have c5 : w.cell? ⟨B, 5, none⟩ = some (.int .i64 (d.acts : Int)) := h.cell 5 rfl
    have s5 := h.soft 5
    have oa : d.acts + 1 ≤ Lim := ok.acts
    unfold Lim at oa
    obtain ⟨m, hm⟩ : ∃ m, d.acts + 1 = m := ⟨_, rfl⟩
    have wa : IntKind.i64.wrap ((d.acts : Int) + 1) = (m : Int) := by rw [IntKind.wrap_i64]; omega
    have LO : Hid (base ≤ w.heap.size) := by have := h.low; have := block_lt h.blk; show base ≤ w.heap.size; omega
    have c6 : w.cell? ⟨B, 6, none⟩ = some (.int .i64 1) := by rw [← hN]; exact h.cell 6 rfl
    have c7 : w.cell? ⟨B, 7, none⟩ = some (.bool true) := by rw [← hdn]; exact h.cell 7 rfl
    have s6 := h.soft 6
    have s8 := h.soft 8
    have wz : IntKind.i64.wrap (1 - 1) = 0 := by decide
    have wz' : IntKind.i64.wrap 0 = 0 := by decide
    obtain ⟨d1, hd1⟩ : ∃ d1 : RK, d1 = { d with named := 0, dead := true, acts := m } := ⟨_, rfl⟩
    obtain ⟨p1, p2⟩ := h.put (d' := { d with named := 0 }) 6 (.int .i64 0) rfl rfl rfl h.two
    obtain ⟨t1, t2⟩ := p1.put (d' := { d with named := 0, dead := true }) 8 (.bool true) rfl rfl rfl h.two
    obtain ⟨q1, q2⟩ := t1.put (d' := d1) 5 (.int .i64 (m : Int)) (by rw [hd1]) (by rw [hd1]) (by rw [hd1]; rfl) (by rw [hd1]; exact h.two)
    obtain ⟨WA, hWA⟩ : ∃ WA, WA = ((w.setCell ⟨B, 6, none⟩ (.int .i64 0)).setCell ⟨B, 8, none⟩ (.bool true)).setCell ⟨B, 5, none⟩ (.int .i64 (m : Int)) := ⟨_, rfl⟩
    rw [← hWA] at q1 q2
    have q2 := (p2.trans t2).trans q2
    have ea : d1.ab = d.ab.stopped.counted := by rw [hd1, ← hm]; rfl
    clear p1 p2 t1 t2
    have EW : Hid (WA = ((w.setCell ⟨B, 6, none⟩ (.int .i64 0)).setCell ⟨B, 8, none⟩ (.bool true)).setCell ⟨B, 5, none⟩ (.int .i64 (m : Int))) := hWA
    have Q : Hid (IsR base WA B d1 ∧ RM w WA B d d1 ∧ base ≤ WA.heap.size ∧ d1.ab.Ok' d.ab) := ⟨q1, q2, Nat.le_trans LO.out q2.kept.size, by rw [hd1]; exact ⟨ok.w0, ok.w1, ok.n0, ok.n1⟩⟩
    have RR : Hid (Reads WA a n c l) := by
      have hz : ∀ k, blockOf a = some k → k < w.heap.size := fun k hk => by
        obtain ⟨b, off, e, hcl⟩ := r.cells n1
        rw [e] at hk
        simp [blockOf] at hk
        subst hk
        exact World.block_lt_of_cell? w ⟨b, off + 0, none⟩ (hcl 0 n1)
      exact r.off (show Kept (fun k => k = B) w WA from by rw [hWA]; exact (((Kept.refl (fun k => k = B) w).setCell (p := ⟨B, 6, none⟩) (fun _ => rfl) _).setCell (p := ⟨B, 8, none⟩) (fun _ => rfl) _).setCell (p := ⟨B, 5, none⟩) (fun _ => rfl) _) (fun k hk z => hrB n1 k hk z)
    rw [← ea]
    clear h ok hd hN hWA q1 q2 oa hm hd1 ea  hdn  hn r hn0
    go_enter Try.func70, Try.ntmps70
    go_upto_region 15 with fail
    rw [← EW.out]
    clear c8 c5 s5 wa c6 c7 s6 s8 wz wz'  
    have LN : Hid (d1.s1.ln + 1 ≤ Lim) := by have h1 := Q.out.2.2.2.n1; have h2 : d1.ab.X1.length = d1.s1.ln := Q.out.1.z1.xlen; show d1.s1.ln + 1 ≤ Lim; omega
    have g2 : WA.cell? ⟨B, 3, none⟩ = some (.slice d1.s1.la d1.s1.ln d1.s1.lc) := Q.out.1.cell 3 rfl
    have hBW : B < WA.heap.size := block_lt Q.out.1.blk
    have KD : Hid (Kept (fun _ => False) WA WA.drew) := (Kept.refl (fun _ => False) WA).drew
    go_upto_region 18 with fail
    go_region_law
      (first
        | (refine step_append_d _ (by rfl) 86 (by rfl) (.tmp 80) (.tmp 85) 79 95 79 _ 2 32 (by rfl) Try.underlying79 Try.info95 rfl base (.slice d1.s1.la d1.s1.ln d1.s1.lc) d1.s1.ln (rcells d1.s1.L) (by rfl) (Q.out.1.kept0 (by repeat (first | with_reducible exact Kept.refl _ _ | with_reducible exact X1.out.2 | with_reducible refine Kept.drew ?_ | with_reducible refine Kept.alloc ?_ _))).z1.lown _ 1 (RA.cells ⟨some l, p1, n, k1⟩) (by rfl) (src_ra (v := .bool false) (u := .slice p1 n k1) (by repeat (first | with_reducible exact alloc_new _ _ | with_reducible exact alloc_newD _ _ _ | with_reducible refine get_drew ?_ | with_reducible refine get_alloc ?_)) rfl rfl) (lim_max LN.out) (lim_wide32 LN.out) (Nat.le_trans Q.out.2.2.1 (show Kept (fun _ => False) WA _ from (by repeat (first | with_reducible exact Kept.refl _ _ | with_reducible exact X1.out.2 | with_reducible refine Kept.drew ?_ | with_reducible refine Kept.alloc ?_ _))).size) ?_; intro p2 c2 w2 ho hg hn
           have X2 : Hid (w2.heap[B]? = some (.cells d1.cells 82 (0, 0)) ∧ IsR base (w2.setCell ⟨B, 3, none⟩ (.slice p2 (d1.s1.ln + 1) c2)) B { d1 with s1 := { d1.s1 with la := p2, ln := d1.s1.ln + 1, lc := c2, L := d1.s1.L ++ [⟨some l, p1, n, k1⟩] } } ∧ RM WA (w2.setCell ⟨B, 3, none⟩ (.slice p2 (d1.s1.ln + 1) c2)) B d1 { d1 with s1 := { d1.s1 with la := p2, ln := d1.s1.ln + 1, lc := c2, L := d1.s1.L ++ [⟨some l, p1, n, k1⟩] } }) := Q.out.1.more1 (by repeat (first | with_reducible exact Kept.refl _ _ | with_reducible exact X1.out.2 | with_reducible refine Kept.drew ?_ | with_reducible refine Kept.alloc ?_ _)) (EL.out _ (by repeat (first | with_reducible exact Kept.refl _ _ | with_reducible refine Kept.drew ?_ | with_reducible refine Kept.alloc ?_ _))).1 (EL.out _ (by repeat (first | with_reducible exact Kept.refl _ _ | with_reducible refine Kept.drew ?_ | with_reducible refine Kept.alloc ?_ _))).2 ho.out hg.out hn.out
           have dd1 := cell_blk X2.out.1 3 (show d1.cells[3]? = some (.slice d1.s1.la d1.s1.ln d1.s1.lc) from rfl)
           have gg1 := soft_blk X2.out.1 3
           clear ho hg hn)
        | (refine step_call_d _ (by rfl) 83 (by rfl) 68 [.const (.slice none 0 0), .tmp 82] _ (by rfl) [.slice none 0 0, .agg #[.bool false, .slice a n c]] (by simp [Act.eval, Act.put]) (enter68 _ _) ((laid none 0 0 [] a n c l WA.drew (Reads.nil _) (RR.out.kept' KD.out (fun _ _ z => z)) (by rw [Nat.zero_add]; exact hlL)).mono ?_); rintro x w1 ⟨p1, k1, rfl, o1, K1⟩; refine ⟨_, rfl, ?_⟩
           rw [Nat.zero_add] at o1 ⊢
           rw [List.nil_append] at o1
           have X1 : Hid (w1.ownsRow WA.heap.size 5 1 (.slice p1 n k1) n (cellsOf l) ∧ Kept (fun _ => False) WA w1) := ⟨o1, KD.out.trans K1 (fun _ _ z => z)⟩
           have e2 : w1.cell? ⟨B, 3, none⟩ = some (.slice d1.s1.la d1.s1.ln d1.s1.lc) := X1.out.2.cell g2 (fun z => z)
           have e3 : (w1.alloc (.cells #[.bool false, .slice p1 n k1] 95)).cell? ⟨B, 3, none⟩ = some (.slice d1.s1.la d1.s1.ln d1.s1.lc) := (alloc_kept0 w1 _).cell e2 (fun z => z)
           have hB1 : B < w1.heap.size := by have := X1.out.2.size; omega
           have EL : Hid (∀ Y : World, Kept (fun _ => False) w1 Y → RA.Good Y ⟨some l, p1, n, k1⟩ ∧ (∀ k, blockOf p1 = some k → WA.heap.size ≤ k ∧ k < Y.heap.size)) := fun Y KY => by
             refine ⟨⟨fun z => by simp at z, fun l' hl' => ?_⟩, fun k hk => ?_⟩
             · simp at hl'
               subst hl'
               exact ⟨by omega, (owned_reads' X1.out.1 RR.out.bytes).kept' KY (fun _ _ z => z)⟩
             · have := own_lt X1.out.1 k hk
               have := KY.size
               omega
           clear o1 K1)
        | fail)
    all_goals go_wp2_with fail
    all_goals go_ret
    all_goals exact ⟨rfl, _, X2.out.2.1, Q.out.2.1.trans X2.out.2.2, by rw [ab_more1]; show _ = d1.ab.add 1 l; unfold AB.add; rw [if_neg (by omega)]⟩
end Go.Proofs.Ytbnnmelkbjkkjaa
