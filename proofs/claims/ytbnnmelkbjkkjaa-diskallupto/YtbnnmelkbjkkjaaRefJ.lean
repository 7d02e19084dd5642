import Derived.Test.YtbnnmelkbjkkjaaRefI
namespace Go.Proofs.Ytbnnmelkbjkkjaa
open Go.RowKit

theorem ab_more0 (d : RK) (p : Option Addr) (m c : Nat) (e : RA) : RK.ab { d with s0 := { d.s0 with la := p, ln := m, lc := c, L := d.s0.L ++ [e] } } = d.ab.more 0 e.x := by
  unfold RK.ab AB.more RSl.xs
  rw [if_pos rfl, List.map_append]
  rfl
theorem ab_more1 (d : RK) (p : Option Addr) (m c : Nat) (e : RA) : RK.ab { d with s1 := { d.s1 with la := p, ln := m, lc := c, L := d.s1.L ++ [e] } } = d.ab.more 1 e.x := by
  unfold RK.ab AB.more RSl.xs
  rw [if_neg (by decide), List.map_append]
  rfl
set_option maxRecDepth 100000 in
set_option maxHeartbeats 4000000 in
theorem rA_2_0_0 (base B : Nat) (d : RK) (a : Option Addr) (n c : Nat) (l : List Nat) (w : World) (h : IsR base w B d) (ok : d.ab.Ok) (hd : d.dead = false) (hN : d.named = 0) (hc : ¬ d.cur = 0) :
    Calls Try.prog 70 #[.pointer (some ⟨B, 0, none⟩), .int .i64 2, .int .i64 0, .slice a n c] w fun x w' => x = .returned (.int .i64 0) ∧ ∃ d', IsR base w' B d' ∧ RM w w' B d d' ∧ d'.ab = d.ab.tick.counted.put 2 0 l := by
  have c8 : w.cell? ⟨B, 8, none⟩ = some (.bool false) := by rw [← hd]; exact h.cell 8 rfl
  have c5 : w.cell? ⟨B, 5, none⟩ = some (.int .i64 (d.acts : Int)) := h.cell 5 rfl
  have s5 := h.soft 5
  have oa : d.acts + 1 ≤ Lim := ok.acts
  unfold Lim at oa
  obtain ⟨m, hm⟩ : ∃ m, d.acts + 1 = m := ⟨_, rfl⟩
  have wa : IntKind.i64.wrap ((d.acts : Int) + 1) = (m : Int) := by rw [IntKind.wrap_i64]; omega
  have LO : Hid (base ≤ w.heap.size) := by have := h.low; have := block_lt h.blk; show base ≤ w.heap.size; omega
  have c4 : w.cell? ⟨B, 4, none⟩ = some (.int .i64 (d.cur : Int)) := h.cell 4 rfl
  have nc : ¬ (0 : Int) = (d.cur : Int) := by omega
  obtain ⟨cu, hcu⟩ : ∃ cu : Int, cu = (d.cur : Int) := ⟨_, rfl⟩
  rw [← hcu] at c4 nc
  clear hcu
  have c6 : w.cell? ⟨B, 6, none⟩ = some (.int .i64 0) := by rw [← hN]; exact h.cell 6 rfl
  obtain ⟨d1, hd1⟩ : ∃ d1 : RK, d1 = { d with acts := m } := ⟨_, rfl⟩
  obtain ⟨q1, q2⟩ := h.put (d' := d1) 5 (.int .i64 (m : Int)) (by rw [hd1]) (by rw [hd1]) (by rw [hd1]; rfl) (by rw [hd1]; exact h.two)
  obtain ⟨WA, hWA⟩ : ∃ WA, WA = w.setCell ⟨B, 5, none⟩ (.int .i64 (m : Int)) := ⟨_, rfl⟩
  rw [← hWA] at q1 q2
  have ea : d1.ab = d.ab.tick.counted := by rw [tick_free (show d.ab.named = 0 from hN), hd1, ← hm]; rfl
  have EW : Hid (WA = w.setCell ⟨B, 5, none⟩ (.int .i64 (m : Int))) := hWA
  have Q : Hid (IsR base WA B d1 ∧ RM w WA B d d1 ∧ base ≤ WA.heap.size ∧ d1.ab.Ok' d.ab) := ⟨q1, q2, Nat.le_trans LO.out q2.kept.size, by rw [hd1]; exact ⟨ok.w0, ok.w1, ok.n0, ok.n1⟩⟩
  rw [← ea]
  clear h ok hd hN hWA q1 q2 oa hm hd1 ea   hc 
  go_enter Try.func70, Try.ntmps70
  go_upto_region 15 with fail
  rw [← EW.out]
  clear c8 c5 s5 wa c6   c4 nc
  have LN : Hid (d1.s0.ln + 1 ≤ Lim) := by have h1 := Q.out.2.2.2.n0; have h2 : d1.ab.X0.length = d1.s0.ln := Q.out.1.z0.xlen; show d1.s0.ln + 1 ≤ Lim; omega
  have g2 : WA.cell? ⟨B, 2, none⟩ = some (.slice d1.s0.la d1.s0.ln d1.s0.lc) := Q.out.1.cell 2 rfl
  have f2 := Q.out.1.soft 2
  have hBW : B < WA.heap.size := block_lt Q.out.1.blk
  have g2' : (WA.alloc (.cells #[.bool true, .slice none 0 0] 95)).cell? ⟨B, 2, none⟩ = some (.slice d1.s0.la d1.s0.ln d1.s0.lc) := (alloc_kept0 WA _).cell g2 (fun z => z)
  go_upto_region 20 with fail
  go_region_law
    (first
      | (refine step_append_d _ (by rfl) 102 (by rfl) (.tmp 99) (.tmp 101) 79 95 79 _ 2 32 (by rfl) Try.underlying79 Try.info95 rfl base (.slice d1.s0.la d1.s0.ln d1.s0.lc) d1.s0.ln (rcells d1.s0.L) (by rfl) (Q.out.1.kept0 (by repeat (first | with_reducible exact Kept.refl _ _ | with_reducible exact Kept.refl _ _ | with_reducible refine Kept.drew ?_ | with_reducible refine Kept.alloc ?_ _))).z0.lown _ 1 (RA.cells ⟨none, none, 0, 0⟩) (by rfl) (src_ra (v := .bool true) (u := .slice none 0 0) (by repeat (first | with_reducible exact alloc_new _ _ | with_reducible exact alloc_newD _ _ _ | with_reducible refine get_drew ?_ | with_reducible refine get_alloc ?_)) rfl rfl) (lim_max LN.out) (lim_wide32 LN.out) (Nat.le_trans Q.out.2.2.1 (show Kept (fun _ => False) WA _ from (by repeat (first | with_reducible exact Kept.refl _ _ | with_reducible exact Kept.refl _ _ | with_reducible refine Kept.drew ?_ | with_reducible refine Kept.alloc ?_ _))).size) ?_; intro p2 c2 w2 ho hg hn
         have X2 : Hid (w2.heap[B]? = some (.cells d1.cells 82 (0, 0)) ∧ IsR base (w2.setCell ⟨B, 2, none⟩ (.slice p2 (d1.s0.ln + 1) c2)) B { d1 with s0 := { d1.s0 with la := p2, ln := d1.s0.ln + 1, lc := c2, L := d1.s0.L ++ [⟨none, none, 0, 0⟩] } } ∧ RM WA (w2.setCell ⟨B, 2, none⟩ (.slice p2 (d1.s0.ln + 1) c2)) B d1 { d1 with s0 := { d1.s0 with la := p2, ln := d1.s0.ln + 1, lc := c2, L := d1.s0.L ++ [⟨none, none, 0, 0⟩] } }) := Q.out.1.more0 (by repeat (first | with_reducible exact Kept.refl _ _ | with_reducible exact Kept.refl _ _ | with_reducible refine Kept.drew ?_ | with_reducible refine Kept.alloc ?_ _)) ⟨fun _ => ⟨rfl, rfl, rfl⟩, fun l hl => by simp at hl⟩ (fun k hk => by simp [blockOf] at hk) ho.out hg.out hn.out
         have dd1 := cell_blk X2.out.1 2 (show d1.cells[2]? = some (.slice d1.s0.la d1.s0.ln d1.s0.lc) from rfl)
         have gg1 := soft_blk X2.out.1 2
         clear ho hg hn)
      | fail)
  all_goals go_wp2_with fail
  all_goals go_ret
  all_goals exact ⟨rfl, _, X2.out.2.1, Q.out.2.1.trans X2.out.2.2, ab_more0 d1 p2 _ c2 ⟨none, none, 0, 0⟩⟩
set_option maxRecDepth 100000 in
set_option maxHeartbeats 4000000 in
theorem rA_2_0_1 (base B : Nat) (d : RK) (a : Option Addr) (n c : Nat) (l : List Nat) (w : World) (h : IsR base w B d) (ok : d.ab.Ok) (hd : d.dead = false) (hN : 1 < d.named) (hN2 : d.named < 9223372036854775808) (hc : ¬ d.cur = 0) :
    Calls Try.prog 70 #[.pointer (some ⟨B, 0, none⟩), .int .i64 2, .int .i64 0, .slice a n c] w fun x w' => x = .returned (.int .i64 0) ∧ ∃ d', IsR base w' B d' ∧ RM w w' B d d' ∧ d'.ab = d.ab.tick.counted.put 2 0 l := by
  have c8 : w.cell? ⟨B, 8, none⟩ = some (.bool false) := by rw [← hd]; exact h.cell 8 rfl
  have c5 : w.cell? ⟨B, 5, none⟩ = some (.int .i64 (d.acts : Int)) := h.cell 5 rfl
  have s5 := h.soft 5
  have oa : d.acts + 1 ≤ Lim := ok.acts
  unfold Lim at oa
  obtain ⟨m, hm⟩ : ∃ m, d.acts + 1 = m := ⟨_, rfl⟩
  have wa : IntKind.i64.wrap ((d.acts : Int) + 1) = (m : Int) := by rw [IntKind.wrap_i64]; omega
  have LO : Hid (base ≤ w.heap.size) := by have := h.low; have := block_lt h.blk; show base ≤ w.heap.size; omega
  have c4 : w.cell? ⟨B, 4, none⟩ = some (.int .i64 (d.cur : Int)) := h.cell 4 rfl
  have nc : ¬ (0 : Int) = (d.cur : Int) := by omega
  obtain ⟨cu, hcu⟩ : ∃ cu : Int, cu = (d.cur : Int) := ⟨_, rfl⟩
  rw [← hcu] at c4 nc
  clear hcu
  have c6 : w.cell? ⟨B, 6, none⟩ = some (.int .i64 d.named) := h.cell 6 rfl
  have s6 := h.soft 6
  obtain ⟨nv, hnv⟩ : ∃ nv, nv = d.named := ⟨_, rfl⟩
  rw [← hnv] at c6
  have nv0 : nv > 0 := by omega
  have nv1 : ¬ nv = 1 := by omega
  obtain ⟨nw, hnw⟩ : ∃ nw : Int, nw = nv - 1 := ⟨_, rfl⟩
  have wn : IntKind.i64.wrap (nv - 1) = nw := by rw [IntKind.wrap_i64]; omega
  obtain ⟨d1, hd1⟩ : ∃ d1 : RK, d1 = { d with named := nw, acts := m } := ⟨_, rfl⟩
  obtain ⟨p1, p2⟩ := h.put (d' := { d with named := nw }) 6 (.int .i64 nw) rfl rfl rfl h.two
  obtain ⟨q1, q2⟩ := p1.put (d' := d1) 5 (.int .i64 (m : Int)) (by rw [hd1]) (by rw [hd1]) (by rw [hd1]; rfl) (by rw [hd1]; exact h.two)
  obtain ⟨WA, hWA⟩ : ∃ WA, WA = (w.setCell ⟨B, 6, none⟩ (.int .i64 nw)).setCell ⟨B, 5, none⟩ (.int .i64 (m : Int)) := ⟨_, rfl⟩
  rw [← hWA] at q1 q2
  have q2 := p2.trans q2
  have ea : d1.ab = d.ab.tick.counted := by
    rw [hd1, ← hm]
    show _ = (AB.tick d.ab).counted
    unfold AB.tick
    rw [show d.ab.named = nv from hnv.symm, if_neg (by omega), ← hnw]
    rfl
  clear p1 p2 hnw hnv
  have EW : Hid (WA = (w.setCell ⟨B, 6, none⟩ (.int .i64 nw)).setCell ⟨B, 5, none⟩ (.int .i64 (m : Int))) := hWA
  have Q : Hid (IsR base WA B d1 ∧ RM w WA B d d1 ∧ base ≤ WA.heap.size ∧ d1.ab.Ok' d.ab) := ⟨q1, q2, Nat.le_trans LO.out q2.kept.size, by rw [hd1]; exact ⟨ok.w0, ok.w1, ok.n0, ok.n1⟩⟩
  rw [← ea]
  clear h ok hd hN hWA q1 q2 oa hm hd1 ea hN2  hc 
  go_enter Try.func70, Try.ntmps70
  go_upto_region 15 with fail
  rw [← EW.out]
  clear c8 c5 s5 wa c6  s6 nv0 wn c4 nc
  have LN : Hid (d1.s0.ln + 1 ≤ Lim) := by have h1 := Q.out.2.2.2.n0; have h2 : d1.ab.X0.length = d1.s0.ln := Q.out.1.z0.xlen; show d1.s0.ln + 1 ≤ Lim; omega
  have g2 : WA.cell? ⟨B, 2, none⟩ = some (.slice d1.s0.la d1.s0.ln d1.s0.lc) := Q.out.1.cell 2 rfl
  have f2 := Q.out.1.soft 2
  have hBW : B < WA.heap.size := block_lt Q.out.1.blk
  have g2' : (WA.alloc (.cells #[.bool true, .slice none 0 0] 95)).cell? ⟨B, 2, none⟩ = some (.slice d1.s0.la d1.s0.ln d1.s0.lc) := (alloc_kept0 WA _).cell g2 (fun z => z)
  go_upto_region 20 with fail
  go_region_law
    (first
      | (refine step_append_d _ (by rfl) 102 (by rfl) (.tmp 99) (.tmp 101) 79 95 79 _ 2 32 (by rfl) Try.underlying79 Try.info95 rfl base (.slice d1.s0.la d1.s0.ln d1.s0.lc) d1.s0.ln (rcells d1.s0.L) (by rfl) (Q.out.1.kept0 (by repeat (first | with_reducible exact Kept.refl _ _ | with_reducible exact Kept.refl _ _ | with_reducible refine Kept.drew ?_ | with_reducible refine Kept.alloc ?_ _))).z0.lown _ 1 (RA.cells ⟨none, none, 0, 0⟩) (by rfl) (src_ra (v := .bool true) (u := .slice none 0 0) (by repeat (first | with_reducible exact alloc_new _ _ | with_reducible exact alloc_newD _ _ _ | with_reducible refine get_drew ?_ | with_reducible refine get_alloc ?_)) rfl rfl) (lim_max LN.out) (lim_wide32 LN.out) (Nat.le_trans Q.out.2.2.1 (show Kept (fun _ => False) WA _ from (by repeat (first | with_reducible exact Kept.refl _ _ | with_reducible exact Kept.refl _ _ | with_reducible refine Kept.drew ?_ | with_reducible refine Kept.alloc ?_ _))).size) ?_; intro p2 c2 w2 ho hg hn
         have X2 : Hid (w2.heap[B]? = some (.cells d1.cells 82 (0, 0)) ∧ IsR base (w2.setCell ⟨B, 2, none⟩ (.slice p2 (d1.s0.ln + 1) c2)) B { d1 with s0 := { d1.s0 with la := p2, ln := d1.s0.ln + 1, lc := c2, L := d1.s0.L ++ [⟨none, none, 0, 0⟩] } } ∧ RM WA (w2.setCell ⟨B, 2, none⟩ (.slice p2 (d1.s0.ln + 1) c2)) B d1 { d1 with s0 := { d1.s0 with la := p2, ln := d1.s0.ln + 1, lc := c2, L := d1.s0.L ++ [⟨none, none, 0, 0⟩] } }) := Q.out.1.more0 (by repeat (first | with_reducible exact Kept.refl _ _ | with_reducible exact Kept.refl _ _ | with_reducible refine Kept.drew ?_ | with_reducible refine Kept.alloc ?_ _)) ⟨fun _ => ⟨rfl, rfl, rfl⟩, fun l hl => by simp at hl⟩ (fun k hk => by simp [blockOf] at hk) ho.out hg.out hn.out
         have dd1 := cell_blk X2.out.1 2 (show d1.cells[2]? = some (.slice d1.s0.la d1.s0.ln d1.s0.lc) from rfl)
         have gg1 := soft_blk X2.out.1 2
         clear ho hg hn)
      | fail)
  all_goals go_wp2_with fail
  all_goals go_ret
  all_goals exact ⟨rfl, _, X2.out.2.1, Q.out.2.1.trans X2.out.2.2, ab_more0 d1 p2 _ c2 ⟨none, none, 0, 0⟩⟩
set_option maxRecDepth 100000 in
set_option maxHeartbeats 4000000 in
theorem rA_2_0_2 (base B : Nat) (d : RK) (a : Option Addr) (n c : Nat) (l : List Nat) (w : World) (h : IsR base w B d) (ok : d.ab.Ok) (hd : d.dead = false) (hN : d.named = 1) (hdn : d.done = true) (hc : ¬ d.cur = 0) :
    Calls Try.prog 70 #[.pointer (some ⟨B, 0, none⟩), .int .i64 2, .int .i64 0, .slice a n c] w fun x w' => x = .returned (.int .i64 60) ∧ ∃ d', IsR base w' B d' ∧ RM w w' B d d' ∧ d'.ab = d.ab.stopped.counted.put 2 0 l := by
  have c8 : w.cell? ⟨B, 8, none⟩ = some (.bool false) := by rw [← hd]; exact h.cell 8 rfl
  have c5 : w.cell? ⟨B, 5, none⟩ = some (.int .i64 (d.acts : Int)) := h.cell 5 rfl
  have s5 := h.soft 5
  have oa : d.acts + 1 ≤ Lim := ok.acts
  unfold Lim at oa
  obtain ⟨m, hm⟩ : ∃ m, d.acts + 1 = m := ⟨_, rfl⟩
  have wa : IntKind.i64.wrap ((d.acts : Int) + 1) = (m : Int) := by rw [IntKind.wrap_i64]; omega
  have LO : Hid (base ≤ w.heap.size) := by have := h.low; have := block_lt h.blk; show base ≤ w.heap.size; omega
  have c4 : w.cell? ⟨B, 4, none⟩ = some (.int .i64 (d.cur : Int)) := h.cell 4 rfl
  have nc : ¬ (0 : Int) = (d.cur : Int) := by omega
  obtain ⟨cu, hcu⟩ : ∃ cu : Int, cu = (d.cur : Int) := ⟨_, rfl⟩
  rw [← hcu] at c4 nc
  clear hcu
  have c6 : w.cell? ⟨B, 6, none⟩ = some (.int .i64 1) := by rw [← hN]; exact h.cell 6 rfl
  have c7 : w.cell? ⟨B, 7, none⟩ = some (.bool true) := by rw [← hdn]; exact h.cell 7 rfl
  have s6 := h.soft 6
  have s8 := h.soft 8
  have wz : IntKind.i64.wrap (1 - 1) = 0 := by decide
  have wz' : IntKind.i64.wrap 0 = 0 := by decide
  obtain ⟨d1, hd1⟩ : ∃ d1 : RK, d1 = { d with named := 0, dead := true, acts := m } := ⟨_, rfl⟩
  obtain ⟨p1, p2⟩ := h.put (d' := { d with named := 0 }) 6 (.int .i64 0) rfl rfl rfl h.two
  obtain ⟨t1, t2⟩ := p1.put (d' := { d with named := 0, dead := true }) 8 (.bool true) rfl rfl rfl h.two
  obtain ⟨q1, q2⟩ := t1.put (d' := d1) 5 (.int .i64 (m : Int)) (by rw [hd1]) (by rw [hd1]) (by rw [hd1]; rfl) (by rw [hd1]; exact h.two)
  obtain ⟨WA, hWA⟩ : ∃ WA, WA = ((w.setCell ⟨B, 6, none⟩ (.int .i64 0)).setCell ⟨B, 8, none⟩ (.bool true)).setCell ⟨B, 5, none⟩ (.int .i64 (m : Int)) := ⟨_, rfl⟩
  rw [← hWA] at q1 q2
  have q2 := (p2.trans t2).trans q2
  have ea : d1.ab = d.ab.stopped.counted := by rw [hd1, ← hm]; rfl
  clear p1 p2 t1 t2
  have EW : Hid (WA = ((w.setCell ⟨B, 6, none⟩ (.int .i64 0)).setCell ⟨B, 8, none⟩ (.bool true)).setCell ⟨B, 5, none⟩ (.int .i64 (m : Int))) := hWA
  have Q : Hid (IsR base WA B d1 ∧ RM w WA B d d1 ∧ base ≤ WA.heap.size ∧ d1.ab.Ok' d.ab) := ⟨q1, q2, Nat.le_trans LO.out q2.kept.size, by rw [hd1]; exact ⟨ok.w0, ok.w1, ok.n0, ok.n1⟩⟩
  rw [← ea]
  clear h ok hd hN hWA q1 q2 oa hm hd1 ea  hdn hc 
  go_enter Try.func70, Try.ntmps70
  go_upto_region 15 with fail
  rw [← EW.out]
  clear c8 c5 s5 wa c6 c7 s6 s8 wz wz'  c4 nc
  have LN : Hid (d1.s0.ln + 1 ≤ Lim) := by have h1 := Q.out.2.2.2.n0; have h2 : d1.ab.X0.length = d1.s0.ln := Q.out.1.z0.xlen; show d1.s0.ln + 1 ≤ Lim; omega
  have g2 : WA.cell? ⟨B, 2, none⟩ = some (.slice d1.s0.la d1.s0.ln d1.s0.lc) := Q.out.1.cell 2 rfl
  have f2 := Q.out.1.soft 2
  have hBW : B < WA.heap.size := block_lt Q.out.1.blk
  have g2' : (WA.alloc (.cells #[.bool true, .slice none 0 0] 95)).cell? ⟨B, 2, none⟩ = some (.slice d1.s0.la d1.s0.ln d1.s0.lc) := (alloc_kept0 WA _).cell g2 (fun z => z)
  go_upto_region 20 with fail
  go_region_law
    (first
      | (refine step_append_d _ (by rfl) 102 (by rfl) (.tmp 99) (.tmp 101) 79 95 79 _ 2 32 (by rfl) Try.underlying79 Try.info95 rfl base (.slice d1.s0.la d1.s0.ln d1.s0.lc) d1.s0.ln (rcells d1.s0.L) (by rfl) (Q.out.1.kept0 (by repeat (first | with_reducible exact Kept.refl _ _ | with_reducible exact Kept.refl _ _ | with_reducible refine Kept.drew ?_ | with_reducible refine Kept.alloc ?_ _))).z0.lown _ 1 (RA.cells ⟨none, none, 0, 0⟩) (by rfl) (src_ra (v := .bool true) (u := .slice none 0 0) (by repeat (first | with_reducible exact alloc_new _ _ | with_reducible exact alloc_newD _ _ _ | with_reducible refine get_drew ?_ | with_reducible refine get_alloc ?_)) rfl rfl) (lim_max LN.out) (lim_wide32 LN.out) (Nat.le_trans Q.out.2.2.1 (show Kept (fun _ => False) WA _ from (by repeat (first | with_reducible exact Kept.refl _ _ | with_reducible exact Kept.refl _ _ | with_reducible refine Kept.drew ?_ | with_reducible refine Kept.alloc ?_ _))).size) ?_; intro p2 c2 w2 ho hg hn
         have X2 : Hid (w2.heap[B]? = some (.cells d1.cells 82 (0, 0)) ∧ IsR base (w2.setCell ⟨B, 2, none⟩ (.slice p2 (d1.s0.ln + 1) c2)) B { d1 with s0 := { d1.s0 with la := p2, ln := d1.s0.ln + 1, lc := c2, L := d1.s0.L ++ [⟨none, none, 0, 0⟩] } } ∧ RM WA (w2.setCell ⟨B, 2, none⟩ (.slice p2 (d1.s0.ln + 1) c2)) B d1 { d1 with s0 := { d1.s0 with la := p2, ln := d1.s0.ln + 1, lc := c2, L := d1.s0.L ++ [⟨none, none, 0, 0⟩] } }) := Q.out.1.more0 (by repeat (first | with_reducible exact Kept.refl _ _ | with_reducible exact Kept.refl _ _ | with_reducible refine Kept.drew ?_ | with_reducible refine Kept.alloc ?_ _)) ⟨fun _ => ⟨rfl, rfl, rfl⟩, fun l hl => by simp at hl⟩ (fun k hk => by simp [blockOf] at hk) ho.out hg.out hn.out
         have dd1 := cell_blk X2.out.1 2 (show d1.cells[2]? = some (.slice d1.s0.la d1.s0.ln d1.s0.lc) from rfl)
         have gg1 := soft_blk X2.out.1 2
         clear ho hg hn)
      | fail)
  all_goals go_wp2_with fail
  all_goals go_ret
  all_goals exact ⟨rfl, _, X2.out.2.1, Q.out.2.1.trans X2.out.2.2, ab_more0 d1 p2 _ c2 ⟨none, none, 0, 0⟩⟩
set_option maxRecDepth 100000 in
set_option maxHeartbeats 4000000 in
theorem rA_2_1_0 (base B : Nat) (d : RK) (a : Option Addr) (n c : Nat) (l : List Nat) (w : World) (h : IsR base w B d) (ok : d.ab.Ok) (hd : d.dead = false) (hN : d.named = 0) (hc : ¬ d.cur = 1) :
    Calls Try.prog 70 #[.pointer (some ⟨B, 0, none⟩), .int .i64 2, .int .i64 1, .slice a n c] w fun x w' => x = .returned (.int .i64 0) ∧ ∃ d', IsR base w' B d' ∧ RM w w' B d d' ∧ d'.ab = d.ab.tick.counted.put 2 1 l := by
  have c8 : w.cell? ⟨B, 8, none⟩ = some (.bool false) := by rw [← hd]; exact h.cell 8 rfl
  have c5 : w.cell? ⟨B, 5, none⟩ = some (.int .i64 (d.acts : Int)) := h.cell 5 rfl
  have s5 := h.soft 5
  have oa : d.acts + 1 ≤ Lim := ok.acts
  unfold Lim at oa
  obtain ⟨m, hm⟩ : ∃ m, d.acts + 1 = m := ⟨_, rfl⟩
  have wa : IntKind.i64.wrap ((d.acts : Int) + 1) = (m : Int) := by rw [IntKind.wrap_i64]; omega
  have LO : Hid (base ≤ w.heap.size) := by have := h.low; have := block_lt h.blk; show base ≤ w.heap.size; omega
  have c4 : w.cell? ⟨B, 4, none⟩ = some (.int .i64 (d.cur : Int)) := h.cell 4 rfl
  have nc : ¬ (1 : Int) = (d.cur : Int) := by omega
  obtain ⟨cu, hcu⟩ : ∃ cu : Int, cu = (d.cur : Int) := ⟨_, rfl⟩
  rw [← hcu] at c4 nc
  clear hcu
  have c6 : w.cell? ⟨B, 6, none⟩ = some (.int .i64 0) := by rw [← hN]; exact h.cell 6 rfl
  obtain ⟨d1, hd1⟩ : ∃ d1 : RK, d1 = { d with acts := m } := ⟨_, rfl⟩
  obtain ⟨q1, q2⟩ := h.put (d' := d1) 5 (.int .i64 (m : Int)) (by rw [hd1]) (by rw [hd1]) (by rw [hd1]; rfl) (by rw [hd1]; exact h.two)
  obtain ⟨WA, hWA⟩ : ∃ WA, WA = w.setCell ⟨B, 5, none⟩ (.int .i64 (m : Int)) := ⟨_, rfl⟩
  rw [← hWA] at q1 q2
  have ea : d1.ab = d.ab.tick.counted := by rw [tick_free (show d.ab.named = 0 from hN), hd1, ← hm]; rfl
  have EW : Hid (WA = w.setCell ⟨B, 5, none⟩ (.int .i64 (m : Int))) := hWA
  have Q : Hid (IsR base WA B d1 ∧ RM w WA B d d1 ∧ base ≤ WA.heap.size ∧ d1.ab.Ok' d.ab) := ⟨q1, q2, Nat.le_trans LO.out q2.kept.size, by rw [hd1]; exact ⟨ok.w0, ok.w1, ok.n0, ok.n1⟩⟩
  rw [← ea]
  clear h ok hd hN hWA q1 q2 oa hm hd1 ea   hc 
  go_enter Try.func70, Try.ntmps70
  go_upto_region 15 with fail
  rw [← EW.out]
  clear c8 c5 s5 wa c6   c4 nc
  have LN : Hid (d1.s1.ln + 1 ≤ Lim) := by have h1 := Q.out.2.2.2.n1; have h2 : d1.ab.X1.length = d1.s1.ln := Q.out.1.z1.xlen; show d1.s1.ln + 1 ≤ Lim; omega
  have g2 : WA.cell? ⟨B, 3, none⟩ = some (.slice d1.s1.la d1.s1.ln d1.s1.lc) := Q.out.1.cell 3 rfl
  have f2 := Q.out.1.soft 3
  have hBW : B < WA.heap.size := block_lt Q.out.1.blk
  have g2' : (WA.alloc (.cells #[.bool true, .slice none 0 0] 95)).cell? ⟨B, 3, none⟩ = some (.slice d1.s1.la d1.s1.ln d1.s1.lc) := (alloc_kept0 WA _).cell g2 (fun z => z)
  go_upto_region 20 with fail
  go_region_law
    (first
      | (refine step_append_d _ (by rfl) 102 (by rfl) (.tmp 99) (.tmp 101) 79 95 79 _ 2 32 (by rfl) Try.underlying79 Try.info95 rfl base (.slice d1.s1.la d1.s1.ln d1.s1.lc) d1.s1.ln (rcells d1.s1.L) (by rfl) (Q.out.1.kept0 (by repeat (first | with_reducible exact Kept.refl _ _ | with_reducible exact Kept.refl _ _ | with_reducible refine Kept.drew ?_ | with_reducible refine Kept.alloc ?_ _))).z1.lown _ 1 (RA.cells ⟨none, none, 0, 0⟩) (by rfl) (src_ra (v := .bool true) (u := .slice none 0 0) (by repeat (first | with_reducible exact alloc_new _ _ | with_reducible exact alloc_newD _ _ _ | with_reducible refine get_drew ?_ | with_reducible refine get_alloc ?_)) rfl rfl) (lim_max LN.out) (lim_wide32 LN.out) (Nat.le_trans Q.out.2.2.1 (show Kept (fun _ => False) WA _ from (by repeat (first | with_reducible exact Kept.refl _ _ | with_reducible exact Kept.refl _ _ | with_reducible refine Kept.drew ?_ | with_reducible refine Kept.alloc ?_ _))).size) ?_; intro p2 c2 w2 ho hg hn
         have X2 : Hid (w2.heap[B]? = some (.cells d1.cells 82 (0, 0)) ∧ IsR base (w2.setCell ⟨B, 3, none⟩ (.slice p2 (d1.s1.ln + 1) c2)) B { d1 with s1 := { d1.s1 with la := p2, ln := d1.s1.ln + 1, lc := c2, L := d1.s1.L ++ [⟨none, none, 0, 0⟩] } } ∧ RM WA (w2.setCell ⟨B, 3, none⟩ (.slice p2 (d1.s1.ln + 1) c2)) B d1 { d1 with s1 := { d1.s1 with la := p2, ln := d1.s1.ln + 1, lc := c2, L := d1.s1.L ++ [⟨none, none, 0, 0⟩] } }) := Q.out.1.more1 (by repeat (first | with_reducible exact Kept.refl _ _ | with_reducible exact Kept.refl _ _ | with_reducible refine Kept.drew ?_ | with_reducible refine Kept.alloc ?_ _)) ⟨fun _ => ⟨rfl, rfl, rfl⟩, fun l hl => by simp at hl⟩ (fun k hk => by simp [blockOf] at hk) ho.out hg.out hn.out
         have dd1 := cell_blk X2.out.1 3 (show d1.cells[3]? = some (.slice d1.s1.la d1.s1.ln d1.s1.lc) from rfl)
         have gg1 := soft_blk X2.out.1 3
         clear ho hg hn)
      | fail)
  all_goals go_wp2_with fail
  all_goals go_ret
  all_goals exact ⟨rfl, _, X2.out.2.1, Q.out.2.1.trans X2.out.2.2, ab_more1 d1 p2 _ c2 ⟨none, none, 0, 0⟩⟩
set_option maxRecDepth 100000 in
set_option maxHeartbeats 4000000 in
theorem rA_2_1_1 (base B : Nat) (d : RK) (a : Option Addr) (n c : Nat) (l : List Nat) (w : World) (h : IsR base w B d) (ok : d.ab.Ok) (hd : d.dead = false) (hN : 1 < d.named) (hN2 : d.named < 9223372036854775808) (hc : ¬ d.cur = 1) :
    Calls Try.prog 70 #[.pointer (some ⟨B, 0, none⟩), .int .i64 2, .int .i64 1, .slice a n c] w fun x w' => x = .returned (.int .i64 0) ∧ ∃ d', IsR base w' B d' ∧ RM w w' B d d' ∧ d'.ab = d.ab.tick.counted.put 2 1 l := by
  have c8 : w.cell? ⟨B, 8, none⟩ = some (.bool false) := by rw [← hd]; exact h.cell 8 rfl
  have c5 : w.cell? ⟨B, 5, none⟩ = some (.int .i64 (d.acts : Int)) := h.cell 5 rfl
  have s5 := h.soft 5
  have oa : d.acts + 1 ≤ Lim := ok.acts
  unfold Lim at oa
  obtain ⟨m, hm⟩ : ∃ m, d.acts + 1 = m := ⟨_, rfl⟩
  have wa : IntKind.i64.wrap ((d.acts : Int) + 1) = (m : Int) := by rw [IntKind.wrap_i64]; omega
  have LO : Hid (base ≤ w.heap.size) := by have := h.low; have := block_lt h.blk; show base ≤ w.heap.size; omega
  have c4 : w.cell? ⟨B, 4, none⟩ = some (.int .i64 (d.cur : Int)) := h.cell 4 rfl
  have nc : ¬ (1 : Int) = (d.cur : Int) := by omega
  obtain ⟨cu, hcu⟩ : ∃ cu : Int, cu = (d.cur : Int) := ⟨_, rfl⟩
  rw [← hcu] at c4 nc
  clear hcu
  have c6 : w.cell? ⟨B, 6, none⟩ = some (.int .i64 d.named) := h.cell 6 rfl
  have s6 := h.soft 6
  obtain ⟨nv, hnv⟩ : ∃ nv, nv = d.named := ⟨_, rfl⟩
  rw [← hnv] at c6
  have nv0 : nv > 0 := by omega
  have nv1 : ¬ nv = 1 := by omega
  obtain ⟨nw, hnw⟩ : ∃ nw : Int, nw = nv - 1 := ⟨_, rfl⟩
  have wn : IntKind.i64.wrap (nv - 1) = nw := by rw [IntKind.wrap_i64]; omega
  obtain ⟨d1, hd1⟩ : ∃ d1 : RK, d1 = { d with named := nw, acts := m } := ⟨_, rfl⟩
  obtain ⟨p1, p2⟩ := h.put (d' := { d with named := nw }) 6 (.int .i64 nw) rfl rfl rfl h.two
  obtain ⟨q1, q2⟩ := p1.put (d' := d1) 5 (.int .i64 (m : Int)) (by rw [hd1]) (by rw [hd1]) (by rw [hd1]; rfl) (by rw [hd1]; exact h.two)
  obtain ⟨WA, hWA⟩ : ∃ WA, WA = (w.setCell ⟨B, 6, none⟩ (.int .i64 nw)).setCell ⟨B, 5, none⟩ (.int .i64 (m : Int)) := ⟨_, rfl⟩
  rw [← hWA] at q1 q2
  have q2 := p2.trans q2
  have ea : d1.ab = d.ab.tick.counted := by
    rw [hd1, ← hm]
    show _ = (AB.tick d.ab).counted
    unfold AB.tick
    rw [show d.ab.named = nv from hnv.symm, if_neg (by omega), ← hnw]
    rfl
  clear p1 p2 hnw hnv
  have EW : Hid (WA = (w.setCell ⟨B, 6, none⟩ (.int .i64 nw)).setCell ⟨B, 5, none⟩ (.int .i64 (m : Int))) := hWA
  have Q : Hid (IsR base WA B d1 ∧ RM w WA B d d1 ∧ base ≤ WA.heap.size ∧ d1.ab.Ok' d.ab) := ⟨q1, q2, Nat.le_trans LO.out q2.kept.size, by rw [hd1]; exact ⟨ok.w0, ok.w1, ok.n0, ok.n1⟩⟩
  rw [← ea]
  clear h ok hd hN hWA q1 q2 oa hm hd1 ea hN2  hc 
  go_enter Try.func70, Try.ntmps70
  go_upto_region 15 with fail
  rw [← EW.out]
  clear c8 c5 s5 wa c6  s6 nv0 wn c4 nc
  have LN : Hid (d1.s1.ln + 1 ≤ Lim) := by have h1 := Q.out.2.2.2.n1; have h2 : d1.ab.X1.length = d1.s1.ln := Q.out.1.z1.xlen; show d1.s1.ln + 1 ≤ Lim; omega
  have g2 : WA.cell? ⟨B, 3, none⟩ = some (.slice d1.s1.la d1.s1.ln d1.s1.lc) := Q.out.1.cell 3 rfl
  have f2 := Q.out.1.soft 3
  have hBW : B < WA.heap.size := block_lt Q.out.1.blk
  have g2' : (WA.alloc (.cells #[.bool true, .slice none 0 0] 95)).cell? ⟨B, 3, none⟩ = some (.slice d1.s1.la d1.s1.ln d1.s1.lc) := (alloc_kept0 WA _).cell g2 (fun z => z)
  go_upto_region 20 with fail
  go_region_law
    (first
      | (refine step_append_d _ (by rfl) 102 (by rfl) (.tmp 99) (.tmp 101) 79 95 79 _ 2 32 (by rfl) Try.underlying79 Try.info95 rfl base (.slice d1.s1.la d1.s1.ln d1.s1.lc) d1.s1.ln (rcells d1.s1.L) (by rfl) (Q.out.1.kept0 (by repeat (first | with_reducible exact Kept.refl _ _ | with_reducible exact Kept.refl _ _ | with_reducible refine Kept.drew ?_ | with_reducible refine Kept.alloc ?_ _))).z1.lown _ 1 (RA.cells ⟨none, none, 0, 0⟩) (by rfl) (src_ra (v := .bool true) (u := .slice none 0 0) (by repeat (first | with_reducible exact alloc_new _ _ | with_reducible exact alloc_newD _ _ _ | with_reducible refine get_drew ?_ | with_reducible refine get_alloc ?_)) rfl rfl) (lim_max LN.out) (lim_wide32 LN.out) (Nat.le_trans Q.out.2.2.1 (show Kept (fun _ => False) WA _ from (by repeat (first | with_reducible exact Kept.refl _ _ | with_reducible exact Kept.refl _ _ | with_reducible refine Kept.drew ?_ | with_reducible refine Kept.alloc ?_ _))).size) ?_; intro p2 c2 w2 ho hg hn
         have X2 : Hid (w2.heap[B]? = some (.cells d1.cells 82 (0, 0)) ∧ IsR base (w2.setCell ⟨B, 3, none⟩ (.slice p2 (d1.s1.ln + 1) c2)) B { d1 with s1 := { d1.s1 with la := p2, ln := d1.s1.ln + 1, lc := c2, L := d1.s1.L ++ [⟨none, none, 0, 0⟩] } } ∧ RM WA (w2.setCell ⟨B, 3, none⟩ (.slice p2 (d1.s1.ln + 1) c2)) B d1 { d1 with s1 := { d1.s1 with la := p2, ln := d1.s1.ln + 1, lc := c2, L := d1.s1.L ++ [⟨none, none, 0, 0⟩] } }) := Q.out.1.more1 (by repeat (first | with_reducible exact Kept.refl _ _ | with_reducible exact Kept.refl _ _ | with_reducible refine Kept.drew ?_ | with_reducible refine Kept.alloc ?_ _)) ⟨fun _ => ⟨rfl, rfl, rfl⟩, fun l hl => by simp at hl⟩ (fun k hk => by simp [blockOf] at hk) ho.out hg.out hn.out
         have dd1 := cell_blk X2.out.1 3 (show d1.cells[3]? = some (.slice d1.s1.la d1.s1.ln d1.s1.lc) from rfl)
         have gg1 := soft_blk X2.out.1 3
         clear ho hg hn)
      | fail)
  all_goals go_wp2_with fail
  all_goals go_ret
  all_goals exact ⟨rfl, _, X2.out.2.1, Q.out.2.1.trans X2.out.2.2, ab_more1 d1 p2 _ c2 ⟨none, none, 0, 0⟩⟩
set_option maxRecDepth 100000 in
set_option maxHeartbeats 4000000 in
theorem rA_2_1_2 (base B : Nat) (d : RK) (a : Option Addr) (n c : Nat) (l : List Nat) (w : World) (h : IsR base w B d) (ok : d.ab.Ok) (hd : d.dead = false) (hN : d.named = 1) (hdn : d.done = true) (hc : ¬ d.cur = 1) :
    Calls Try.prog 70 #[.pointer (some ⟨B, 0, none⟩), .int .i64 2, .int .i64 1, .slice a n c] w fun x w' => x = .returned (.int .i64 60) ∧ ∃ d', IsR base w' B d' ∧ RM w w' B d d' ∧ d'.ab = d.ab.stopped.counted.put 2 1 l := by
  have c8 : w.cell? ⟨B, 8, none⟩ = some (.bool false) := by rw [← hd]; exact h.cell 8 rfl
  have c5 : w.cell? ⟨B, 5, none⟩ = some (.int .i64 (d.acts : Int)) := h.cell 5 rfl
  have s5 := h.soft 5
  have oa : d.acts + 1 ≤ Lim := ok.acts
  unfold Lim at oa
  obtain ⟨m, hm⟩ : ∃ m, d.acts + 1 = m := ⟨_, rfl⟩
  have wa : IntKind.i64.wrap ((d.acts : Int) + 1) = (m : Int) := by rw [IntKind.wrap_i64]; omega
  have LO : Hid (base ≤ w.heap.size) := by have := h.low; have := block_lt h.blk; show base ≤ w.heap.size; omega
  have c4 : w.cell? ⟨B, 4, none⟩ = some (.int .i64 (d.cur : Int)) := h.cell 4 rfl
  have nc : ¬ (1 : Int) = (d.cur : Int) := by omega
  obtain ⟨cu, hcu⟩ : ∃ cu : Int, cu = (d.cur : Int) := ⟨_, rfl⟩
  rw [← hcu] at c4 nc
  clear hcu
  have c6 : w.cell? ⟨B, 6, none⟩ = some (.int .i64 1) := by rw [← hN]; exact h.cell 6 rfl
  have c7 : w.cell? ⟨B, 7, none⟩ = some (.bool true) := by rw [← hdn]; exact h.cell 7 rfl
  have s6 := h.soft 6
  have s8 := h.soft 8
  have wz : IntKind.i64.wrap (1 - 1) = 0 := by decide
  have wz' : IntKind.i64.wrap 0 = 0 := by decide
  obtain ⟨d1, hd1⟩ : ∃ d1 : RK, d1 = { d with named := 0, dead := true, acts := m } := ⟨_, rfl⟩
  obtain ⟨p1, p2⟩ := h.put (d' := { d with named := 0 }) 6 (.int .i64 0) rfl rfl rfl h.two
  obtain ⟨t1, t2⟩ := p1.put (d' := { d with named := 0, dead := true }) 8 (.bool true) rfl rfl rfl h.two
  obtain ⟨q1, q2⟩ := t1.put (d' := d1) 5 (.int .i64 (m : Int)) (by rw [hd1]) (by rw [hd1]) (by rw [hd1]; rfl) (by rw [hd1]; exact h.two)
  obtain ⟨WA, hWA⟩ : ∃ WA, WA = ((w.setCell ⟨B, 6, none⟩ (.int .i64 0)).setCell ⟨B, 8, none⟩ (.bool true)).setCell ⟨B, 5, none⟩ (.int .i64 (m : Int)) := ⟨_, rfl⟩
  rw [← hWA] at q1 q2
  have q2 := (p2.trans t2).trans q2
  have ea : d1.ab = d.ab.stopped.counted := by rw [hd1, ← hm]; rfl
  clear p1 p2 t1 t2
  have EW : Hid (WA = ((w.setCell ⟨B, 6, none⟩ (.int .i64 0)).setCell ⟨B, 8, none⟩ (.bool true)).setCell ⟨B, 5, none⟩ (.int .i64 (m : Int))) := hWA
  have Q : Hid (IsR base WA B d1 ∧ RM w WA B d d1 ∧ base ≤ WA.heap.size ∧ d1.ab.Ok' d.ab) := ⟨q1, q2, Nat.le_trans LO.out q2.kept.size, by rw [hd1]; exact ⟨ok.w0, ok.w1, ok.n0, ok.n1⟩⟩
  rw [← ea]
  clear h ok hd hN hWA q1 q2 oa hm hd1 ea  hdn hc 
  go_enter Try.func70, Try.ntmps70
  go_upto_region 15 with fail
  rw [← EW.out]
  clear c8 c5 s5 wa c6 c7 s6 s8 wz wz'  c4 nc
  have LN : Hid (d1.s1.ln + 1 ≤ Lim) := by have h1 := Q.out.2.2.2.n1; have h2 : d1.ab.X1.length = d1.s1.ln := Q.out.1.z1.xlen; show d1.s1.ln + 1 ≤ Lim; omega
  have g2 : WA.cell? ⟨B, 3, none⟩ = some (.slice d1.s1.la d1.s1.ln d1.s1.lc) := Q.out.1.cell 3 rfl
  have f2 := Q.out.1.soft 3
  have hBW : B < WA.heap.size := block_lt Q.out.1.blk
  have g2' : (WA.alloc (.cells #[.bool true, .slice none 0 0] 95)).cell? ⟨B, 3, none⟩ = some (.slice d1.s1.la d1.s1.ln d1.s1.lc) := (alloc_kept0 WA _).cell g2 (fun z => z)
  go_upto_region 20 with fail
  go_region_law
    (first
      | (refine step_append_d _ (by rfl) 102 (by rfl) (.tmp 99) (.tmp 101) 79 95 79 _ 2 32 (by rfl) Try.underlying79 Try.info95 rfl base (.slice d1.s1.la d1.s1.ln d1.s1.lc) d1.s1.ln (rcells d1.s1.L) (by rfl) (Q.out.1.kept0 (by repeat (first | with_reducible exact Kept.refl _ _ | with_reducible exact Kept.refl _ _ | with_reducible refine Kept.drew ?_ | with_reducible refine Kept.alloc ?_ _))).z1.lown _ 1 (RA.cells ⟨none, none, 0, 0⟩) (by rfl) (src_ra (v := .bool true) (u := .slice none 0 0) (by repeat (first | with_reducible exact alloc_new _ _ | with_reducible exact alloc_newD _ _ _ | with_reducible refine get_drew ?_ | with_reducible refine get_alloc ?_)) rfl rfl) (lim_max LN.out) (lim_wide32 LN.out) (Nat.le_trans Q.out.2.2.1 (show Kept (fun _ => False) WA _ from (by repeat (first | with_reducible exact Kept.refl _ _ | with_reducible exact Kept.refl _ _ | with_reducible refine Kept.drew ?_ | with_reducible refine Kept.alloc ?_ _))).size) ?_; intro p2 c2 w2 ho hg hn
         have X2 : Hid (w2.heap[B]? = some (.cells d1.cells 82 (0, 0)) ∧ IsR base (w2.setCell ⟨B, 3, none⟩ (.slice p2 (d1.s1.ln + 1) c2)) B { d1 with s1 := { d1.s1 with la := p2, ln := d1.s1.ln + 1, lc := c2, L := d1.s1.L ++ [⟨none, none, 0, 0⟩] } } ∧ RM WA (w2.setCell ⟨B, 3, none⟩ (.slice p2 (d1.s1.ln + 1) c2)) B d1 { d1 with s1 := { d1.s1 with la := p2, ln := d1.s1.ln + 1, lc := c2, L := d1.s1.L ++ [⟨none, none, 0, 0⟩] } }) := Q.out.1.more1 (by repeat (first | with_reducible exact Kept.refl _ _ | with_reducible exact Kept.refl _ _ | with_reducible refine Kept.drew ?_ | with_reducible refine Kept.alloc ?_ _)) ⟨fun _ => ⟨rfl, rfl, rfl⟩, fun l hl => by simp at hl⟩ (fun k hk => by simp [blockOf] at hk) ho.out hg.out hn.out
         have dd1 := cell_blk X2.out.1 3 (show d1.cells[3]? = some (.slice d1.s1.la d1.s1.ln d1.s1.lc) from rfl)
         have gg1 := soft_blk X2.out.1 3
         clear ho hg hn)
      | fail)
  all_goals go_wp2_with fail
  all_goals go_ret
  all_goals exact ⟨rfl, _, X2.out.2.1, Q.out.2.1.trans X2.out.2.2, ab_more1 d1 p2 _ c2 ⟨none, none, 0, 0⟩⟩
end Go.Proofs.Ytbnnmelkbjkkjaa
