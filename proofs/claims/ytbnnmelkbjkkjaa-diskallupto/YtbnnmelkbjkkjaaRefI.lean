import Derived.Test.YtbnnmelkbjkkjaaRefHJ
namespace Go.Proofs.Ytbnnmelkbjkkjaa
open Go.RowKit

/-- Its slots are not too great. -/
structure AB.Ok' (A _B : AB) : Prop where
  w0 : A.l0.length + weigh A.X0 ≤ Lim
  w1 : A.l1.length + weigh A.X1 ≤ Lim
  n0 : A.X0.length + 1 ≤ Lim
  n1 : A.X1.length + 1 ≤ Lim
set_option maxRecDepth 100000 in
set_option maxHeartbeats 4000000 in
theorem rA_4_0_0 (base B : Nat) (d : RK) (a : Option Addr) (n c : Nat) (l : List Nat) (w : World) (h : IsR base w B d) (ok : d.ab.Ok) (hd : d.dead = false) (hN : d.named = 0) :
    Calls Try.prog 70 #[.pointer (some ⟨B, 0, none⟩), .int .i64 4, .int .i64 0, .slice a n c] w fun x w' => x = .returned (.int .i64 0) ∧ ∃ d', IsR base w' B d' ∧ RM w w' B d d' ∧ d'.ab = d.ab.tick.counted.put 4 0 l := by
  have c8 : w.cell? ⟨B, 8, none⟩ = some (.bool false) := by rw [← hd]; exact h.cell 8 rfl
  have c5 : w.cell? ⟨B, 5, none⟩ = some (.int .i64 (d.acts : Int)) := h.cell 5 rfl
  have s5 := h.soft 5
  have oa : d.acts + 1 ≤ Lim := ok.acts
  unfold Lim at oa
  obtain ⟨m, hm⟩ : ∃ m, d.acts + 1 = m := ⟨_, rfl⟩
  have wa : IntKind.i64.wrap ((d.acts : Int) + 1) = (m : Int) := by rw [IntKind.wrap_i64]; omega
  have LO : Hid (base ≤ w.heap.size) := by have := h.low; have := block_lt h.blk; show base ≤ w.heap.size; omega
  have c6 : w.cell? ⟨B, 6, none⟩ = some (.int .i64 0) := by rw [← hN]; exact h.cell 6 rfl
  obtain ⟨d1, hd1⟩ : ∃ d1 : RK, d1 = { d with acts := m } := ⟨_, rfl⟩
  obtain ⟨q1, q2⟩ := h.put (d' := d1) 5 (.int .i64 (m : Int)) (by rw [hd1]) (by rw [hd1]) (by rw [hd1]; rfl) (by rw [hd1]; exact h.two)
  obtain ⟨WA, hWA⟩ : ∃ WA, WA = w.setCell ⟨B, 5, none⟩ (.int .i64 (m : Int)) := ⟨_, rfl⟩
  rw [← hWA] at q1 q2
  have ea : d1.ab = d.ab.tick.counted := by rw [tick_free (show d.ab.named = 0 from hN), hd1, ← hm]; rfl
  have EW : Hid (WA = w.setCell ⟨B, 5, none⟩ (.int .i64 (m : Int))) := hWA
  have sz1 : d1.s0 = d.s0 ∧ d1.s1 = d.s1 := by rw [hd1]; exact ⟨rfl, rfl⟩
  have Q : Hid (IsR base WA B d1 ∧ RM w WA B d d1 ∧ base ≤ WA.heap.size ∧ d1.ab.Ok' d.ab) := ⟨q1, q2, Nat.le_trans LO.out q2.kept.size, by rw [hd1]; exact ⟨ok.w0, ok.w1, ok.n0, ok.n1⟩⟩
  rw [← ea]
  clear h ok hd hN hWA q1 q2 oa hm hd1 ea    
  go_enter Try.func70, Try.ntmps70
  go_upto_region 15 with fail
  rw [← EW.out]
  clear c8 c5 s5 wa c6   
  have g4 : WA.cell? ⟨B, 4, none⟩ = some (.int .i64 (d1.cur : Int)) := Q.out.1.cell 4 rfl
  have f4 := Q.out.1.soft 4
  obtain ⟨t1, t2⟩ := Q.out.1.put (d' := { d1 with cur := 0 }) 4 (.int .i64 0) rfl rfl rfl (by show 0 < 2; omega)
  have Z : Hid (IsR base (WA.setCell ⟨B, 4, none⟩ (.int .i64 0)) B { d1 with cur := 0 } ∧ RM w (WA.setCell ⟨B, 4, none⟩ (.int .i64 0)) B d { d1 with cur := 0 }) := ⟨t1, Q.out.2.1.trans t2⟩
  clear t1 t2
  go_wp2_with fail
  go_ret
  exact ⟨rfl, _, Z.out.1, Z.out.2, rfl⟩
set_option maxRecDepth 100000 in
set_option maxHeartbeats 4000000 in
theorem rA_4_0_1 (base B : Nat) (d : RK) (a : Option Addr) (n c : Nat) (l : List Nat) (w : World) (h : IsR base w B d) (ok : d.ab.Ok) (hd : d.dead = false) (hN : 1 < d.named) (hN2 : d.named < 9223372036854775808) :
    Calls Try.prog 70 #[.pointer (some ⟨B, 0, none⟩), .int .i64 4, .int .i64 0, .slice a n c] w fun x w' => x = .returned (.int .i64 0) ∧ ∃ d', IsR base w' B d' ∧ RM w w' B d d' ∧ d'.ab = d.ab.tick.counted.put 4 0 l := by
  have c8 : w.cell? ⟨B, 8, none⟩ = some (.bool false) := by rw [← hd]; exact h.cell 8 rfl
  have c5 : w.cell? ⟨B, 5, none⟩ = some (.int .i64 (d.acts : Int)) := h.cell 5 rfl
  have s5 := h.soft 5
  have oa : d.acts + 1 ≤ Lim := ok.acts
  unfold Lim at oa
  obtain ⟨m, hm⟩ : ∃ m, d.acts + 1 = m := ⟨_, rfl⟩
  have wa : IntKind.i64.wrap ((d.acts : Int) + 1) = (m : Int) := by rw [IntKind.wrap_i64]; omega
  have LO : Hid (base ≤ w.heap.size) := by have := h.low; have := block_lt h.blk; show base ≤ w.heap.size; omega
  have c6 : w.cell? ⟨B, 6, none⟩ = some (.int .i64 d.named) := h.cell 6 rfl
  have s6 := h.soft 6
  obtain ⟨nv, hnv⟩ : ∃ nv, nv = d.named := ⟨_, rfl⟩
  rw [← hnv] at c6
  have nv0 : nv > 0 := by omega
  have nv1 : ¬ nv = 1 := by omega
  obtain ⟨nw, hnw⟩ : ∃ nw : Int, nw = nv - 1 := ⟨_, rfl⟩
  have wn : IntKind.i64.wrap (nv - 1) = nw := by rw [IntKind.wrap_i64]; omega
  obtain ⟨d1, hd1⟩ : ∃ d1 : RK, d1 = { d with named := nw, acts := m } := ⟨_, rfl⟩
  obtain ⟨p1, p2⟩ := h.put (d' := { d with named := nw }) 6 (.int .i64 nw) rfl rfl rfl h.two
  obtain ⟨q1, q2⟩ := p1.put (d' := d1) 5 (.int .i64 (m : Int)) (by rw [hd1]) (by rw [hd1]) (by rw [hd1]; rfl) (by rw [hd1]; exact h.two)
  obtain ⟨WA, hWA⟩ : ∃ WA, WA = (w.setCell ⟨B, 6, none⟩ (.int .i64 nw)).setCell ⟨B, 5, none⟩ (.int .i64 (m : Int)) := ⟨_, rfl⟩
  rw [← hWA] at q1 q2
  have q2 := p2.trans q2
  have ea : d1.ab = d.ab.tick.counted := by
    rw [hd1, ← hm]
    show _ = (AB.tick d.ab).counted
    unfold AB.tick
    rw [show d.ab.named = nv from hnv.symm, if_neg (by omega), ← hnw]
    rfl
  clear p1 p2 hnw hnv
  have EW : Hid (WA = (w.setCell ⟨B, 6, none⟩ (.int .i64 nw)).setCell ⟨B, 5, none⟩ (.int .i64 (m : Int))) := hWA
  have sz1 : d1.s0 = d.s0 ∧ d1.s1 = d.s1 := by rw [hd1]; exact ⟨rfl, rfl⟩
  have Q : Hid (IsR base WA B d1 ∧ RM w WA B d d1 ∧ base ≤ WA.heap.size ∧ d1.ab.Ok' d.ab) := ⟨q1, q2, Nat.le_trans LO.out q2.kept.size, by rw [hd1]; exact ⟨ok.w0, ok.w1, ok.n0, ok.n1⟩⟩
  rw [← ea]
  clear h ok hd hN hWA q1 q2 oa hm hd1 ea hN2   
  go_enter Try.func70, Try.ntmps70
  go_upto_region 15 with fail
  rw [← EW.out]
  clear c8 c5 s5 wa c6  s6 nv0 wn 
  have g4 : WA.cell? ⟨B, 4, none⟩ = some (.int .i64 (d1.cur : Int)) := Q.out.1.cell 4 rfl
  have f4 := Q.out.1.soft 4
  obtain ⟨t1, t2⟩ := Q.out.1.put (d' := { d1 with cur := 0 }) 4 (.int .i64 0) rfl rfl rfl (by show 0 < 2; omega)
  have Z : Hid (IsR base (WA.setCell ⟨B, 4, none⟩ (.int .i64 0)) B { d1 with cur := 0 } ∧ RM w (WA.setCell ⟨B, 4, none⟩ (.int .i64 0)) B d { d1 with cur := 0 }) := ⟨t1, Q.out.2.1.trans t2⟩
  clear t1 t2
  go_wp2_with fail
  go_ret
  exact ⟨rfl, _, Z.out.1, Z.out.2, rfl⟩
set_option maxRecDepth 100000 in
set_option maxHeartbeats 4000000 in
theorem rA_4_0_2 (base B : Nat) (d : RK) (a : Option Addr) (n c : Nat) (l : List Nat) (w : World) (h : IsR base w B d) (ok : d.ab.Ok) (hd : d.dead = false) (hN : d.named = 1) (hdn : d.done = true) :
    Calls Try.prog 70 #[.pointer (some ⟨B, 0, none⟩), .int .i64 4, .int .i64 0, .slice a n c] w fun x w' => x = .returned (.int .i64 60) ∧ ∃ d', IsR base w' B d' ∧ RM w w' B d d' ∧ d'.ab = d.ab.stopped.counted.put 4 0 l := by
  have c8 : w.cell? ⟨B, 8, none⟩ = some (.bool false) := by rw [← hd]; exact h.cell 8 rfl
  have c5 : w.cell? ⟨B, 5, none⟩ = some (.int .i64 (d.acts : Int)) := h.cell 5 rfl
  have s5 := h.soft 5
  have oa : d.acts + 1 ≤ Lim := ok.acts
  unfold Lim at oa
  obtain ⟨m, hm⟩ : ∃ m, d.acts + 1 = m := ⟨_, rfl⟩
  have wa : IntKind.i64.wrap ((d.acts : Int) + 1) = (m : Int) := by rw [IntKind.wrap_i64]; omega
  have LO : Hid (base ≤ w.heap.size) := by have := h.low; have := block_lt h.blk; show base ≤ w.heap.size; omega
  have c6 : w.cell? ⟨B, 6, none⟩ = some (.int .i64 1) := by rw [← hN]; exact h.cell 6 rfl
  have c7 : w.cell? ⟨B, 7, none⟩ = some (.bool true) := by rw [← hdn]; exact h.cell 7 rfl
  have s6 := h.soft 6
  have s8 := h.soft 8
  have wz : IntKind.i64.wrap (1 - 1) = 0 := by decide
  have wz' : IntKind.i64.wrap 0 = 0 := by decide
  obtain ⟨d1, hd1⟩ : ∃ d1 : RK, d1 = { d with named := 0, dead := true, acts := m } := ⟨_, rfl⟩
  obtain ⟨p1, p2⟩ := h.put (d' := { d with named := 0 }) 6 (.int .i64 0) rfl rfl rfl h.two
  obtain ⟨t1, t2⟩ := p1.put (d' := { d with named := 0, dead := true }) 8 (.bool true) rfl rfl rfl h.two
  obtain ⟨q1, q2⟩ := t1.put (d' := d1) 5 (.int .i64 (m : Int)) (by rw [hd1]) (by rw [hd1]) (by rw [hd1]; rfl) (by rw [hd1]; exact h.two)
  obtain ⟨WA, hWA⟩ : ∃ WA, WA = ((w.setCell ⟨B, 6, none⟩ (.int .i64 0)).setCell ⟨B, 8, none⟩ (.bool true)).setCell ⟨B, 5, none⟩ (.int .i64 (m : Int)) := ⟨_, rfl⟩
  rw [← hWA] at q1 q2
  have q2 := (p2.trans t2).trans q2
  have ea : d1.ab = d.ab.stopped.counted := by rw [hd1, ← hm]; rfl
  clear p1 p2 t1 t2
  have EW : Hid (WA = ((w.setCell ⟨B, 6, none⟩ (.int .i64 0)).setCell ⟨B, 8, none⟩ (.bool true)).setCell ⟨B, 5, none⟩ (.int .i64 (m : Int))) := hWA
  have sz1 : d1.s0 = d.s0 ∧ d1.s1 = d.s1 := by rw [hd1]; exact ⟨rfl, rfl⟩
  have Q : Hid (IsR base WA B d1 ∧ RM w WA B d d1 ∧ base ≤ WA.heap.size ∧ d1.ab.Ok' d.ab) := ⟨q1, q2, Nat.le_trans LO.out q2.kept.size, by rw [hd1]; exact ⟨ok.w0, ok.w1, ok.n0, ok.n1⟩⟩
  rw [← ea]
  clear h ok hd hN hWA q1 q2 oa hm hd1 ea  hdn  
  go_enter Try.func70, Try.ntmps70
  go_upto_region 15 with fail
  rw [← EW.out]
  clear c8 c5 s5 wa c6 c7 s6 s8 wz wz'  
  have g4 : WA.cell? ⟨B, 4, none⟩ = some (.int .i64 (d1.cur : Int)) := Q.out.1.cell 4 rfl
  have f4 := Q.out.1.soft 4
  obtain ⟨t1, t2⟩ := Q.out.1.put (d' := { d1 with cur := 0 }) 4 (.int .i64 0) rfl rfl rfl (by show 0 < 2; omega)
  have Z : Hid (IsR base (WA.setCell ⟨B, 4, none⟩ (.int .i64 0)) B { d1 with cur := 0 } ∧ RM w (WA.setCell ⟨B, 4, none⟩ (.int .i64 0)) B d { d1 with cur := 0 }) := ⟨t1, Q.out.2.1.trans t2⟩
  clear t1 t2
  go_wp2_with fail
  go_ret
  exact ⟨rfl, _, Z.out.1, Z.out.2, rfl⟩
set_option maxRecDepth 100000 in
set_option maxHeartbeats 4000000 in
theorem rA_4_1_0 (base B : Nat) (d : RK) (a : Option Addr) (n c : Nat) (l : List Nat) (w : World) (h : IsR base w B d) (ok : d.ab.Ok) (hd : d.dead = false) (hN : d.named = 0) :
    Calls Try.prog 70 #[.pointer (some ⟨B, 0, none⟩), .int .i64 4, .int .i64 1, .slice a n c] w fun x w' => x = .returned (.int .i64 0) ∧ ∃ d', IsR base w' B d' ∧ RM w w' B d d' ∧ d'.ab = d.ab.tick.counted.put 4 1 l := by
  have c8 : w.cell? ⟨B, 8, none⟩ = some (.bool false) := by rw [← hd]; exact h.cell 8 rfl
  have c5 : w.cell? ⟨B, 5, none⟩ = some (.int .i64 (d.acts : Int)) := h.cell 5 rfl
  have s5 := h.soft 5
  have oa : d.acts + 1 ≤ Lim := ok.acts
  unfold Lim at oa
  obtain ⟨m, hm⟩ : ∃ m, d.acts + 1 = m := ⟨_, rfl⟩
  have wa : IntKind.i64.wrap ((d.acts : Int) + 1) = (m : Int) := by rw [IntKind.wrap_i64]; omega
  have LO : Hid (base ≤ w.heap.size) := by have := h.low; have := block_lt h.blk; show base ≤ w.heap.size; omega
  have c6 : w.cell? ⟨B, 6, none⟩ = some (.int .i64 0) := by rw [← hN]; exact h.cell 6 rfl
  obtain ⟨d1, hd1⟩ : ∃ d1 : RK, d1 = { d with acts := m } := ⟨_, rfl⟩
  obtain ⟨q1, q2⟩ := h.put (d' := d1) 5 (.int .i64 (m : Int)) (by rw [hd1]) (by rw [hd1]) (by rw [hd1]; rfl) (by rw [hd1]; exact h.two)
  obtain ⟨WA, hWA⟩ : ∃ WA, WA = w.setCell ⟨B, 5, none⟩ (.int .i64 (m : Int)) := ⟨_, rfl⟩
  rw [← hWA] at q1 q2
  have ea : d1.ab = d.ab.tick.counted := by rw [tick_free (show d.ab.named = 0 from hN), hd1, ← hm]; rfl
  have EW : Hid (WA = w.setCell ⟨B, 5, none⟩ (.int .i64 (m : Int))) := hWA
  have sz1 : d1.s0 = d.s0 ∧ d1.s1 = d.s1 := by rw [hd1]; exact ⟨rfl, rfl⟩
  have Q : Hid (IsR base WA B d1 ∧ RM w WA B d d1 ∧ base ≤ WA.heap.size ∧ d1.ab.Ok' d.ab) := ⟨q1, q2, Nat.le_trans LO.out q2.kept.size, by rw [hd1]; exact ⟨ok.w0, ok.w1, ok.n0, ok.n1⟩⟩
  rw [← ea]
  clear h ok hd hN hWA q1 q2 oa hm hd1 ea    
  go_enter Try.func70, Try.ntmps70
  go_upto_region 15 with fail
  rw [← EW.out]
  clear c8 c5 s5 wa c6   
  have g4 : WA.cell? ⟨B, 4, none⟩ = some (.int .i64 (d1.cur : Int)) := Q.out.1.cell 4 rfl
  have f4 := Q.out.1.soft 4
  obtain ⟨t1, t2⟩ := Q.out.1.put (d' := { d1 with cur := 1 }) 4 (.int .i64 1) rfl rfl rfl (by show 1 < 2; omega)
  have Z : Hid (IsR base (WA.setCell ⟨B, 4, none⟩ (.int .i64 1)) B { d1 with cur := 1 } ∧ RM w (WA.setCell ⟨B, 4, none⟩ (.int .i64 1)) B d { d1 with cur := 1 }) := ⟨t1, Q.out.2.1.trans t2⟩
  clear t1 t2
  go_wp2_with fail
  go_ret
  exact ⟨rfl, _, Z.out.1, Z.out.2, rfl⟩
set_option maxRecDepth 100000 in
set_option maxHeartbeats 4000000 in
theorem rA_4_1_1 (base B : Nat) (d : RK) (a : Option Addr) (n c : Nat) (l : List Nat) (w : World) (h : IsR base w B d) (ok : d.ab.Ok) (hd : d.dead = false) (hN : 1 < d.named) (hN2 : d.named < 9223372036854775808) :
    Calls Try.prog 70 #[.pointer (some ⟨B, 0, none⟩), .int .i64 4, .int .i64 1, .slice a n c] w fun x w' => x = .returned (.int .i64 0) ∧ ∃ d', IsR base w' B d' ∧ RM w w' B d d' ∧ d'.ab = d.ab.tick.counted.put 4 1 l := by
  have c8 : w.cell? ⟨B, 8, none⟩ = some (.bool false) := by rw [← hd]; exact h.cell 8 rfl
  have c5 : w.cell? ⟨B, 5, none⟩ = some (.int .i64 (d.acts : Int)) := h.cell 5 rfl
  have s5 := h.soft 5
  have oa : d.acts + 1 ≤ Lim := ok.acts
  unfold Lim at oa
  obtain ⟨m, hm⟩ : ∃ m, d.acts + 1 = m := ⟨_, rfl⟩
  have wa : IntKind.i64.wrap ((d.acts : Int) + 1) = (m : Int) := by rw [IntKind.wrap_i64]; omega
  have LO : Hid (base ≤ w.heap.size) := by have := h.low; have := block_lt h.blk; show base ≤ w.heap.size; omega
  have c6 : w.cell? ⟨B, 6, none⟩ = some (.int .i64 d.named) := h.cell 6 rfl
  have s6 := h.soft 6
  obtain ⟨nv, hnv⟩ : ∃ nv, nv = d.named := ⟨_, rfl⟩
  rw [← hnv] at c6
  have nv0 : nv > 0 := by omega
  have nv1 : ¬ nv = 1 := by omega
  obtain ⟨nw, hnw⟩ : ∃ nw : Int, nw = nv - 1 := ⟨_, rfl⟩
  have wn : IntKind.i64.wrap (nv - 1) = nw := by rw [IntKind.wrap_i64]; omega
  obtain ⟨d1, hd1⟩ : ∃ d1 : RK, d1 = { d with named := nw, acts := m } := ⟨_, rfl⟩
  obtain ⟨p1, p2⟩ := h.put (d' := { d with named := nw }) 6 (.int .i64 nw) rfl rfl rfl h.two
  obtain ⟨q1, q2⟩ := p1.put (d' := d1) 5 (.int .i64 (m : Int)) (by rw [hd1]) (by rw [hd1]) (by rw [hd1]; rfl) (by rw [hd1]; exact h.two)
  obtain ⟨WA, hWA⟩ : ∃ WA, WA = (w.setCell ⟨B, 6, none⟩ (.int .i64 nw)).setCell ⟨B, 5, none⟩ (.int .i64 (m : Int)) := ⟨_, rfl⟩
  rw [← hWA] at q1 q2
  have q2 := p2.trans q2
  have ea : d1.ab = d.ab.tick.counted := by
    rw [hd1, ← hm]
    show _ = (AB.tick d.ab).counted
    unfold AB.tick
    rw [show d.ab.named = nv from hnv.symm, if_neg (by omega), ← hnw]
    rfl
  clear p1 p2 hnw hnv
  have EW : Hid (WA = (w.setCell ⟨B, 6, none⟩ (.int .i64 nw)).setCell ⟨B, 5, none⟩ (.int .i64 (m : Int))) := hWA
  have sz1 : d1.s0 = d.s0 ∧ d1.s1 = d.s1 := by rw [hd1]; exact ⟨rfl, rfl⟩
  have Q : Hid (IsR base WA B d1 ∧ RM w WA B d d1 ∧ base ≤ WA.heap.size ∧ d1.ab.Ok' d.ab) := ⟨q1, q2, Nat.le_trans LO.out q2.kept.size, by rw [hd1]; exact ⟨ok.w0, ok.w1, ok.n0, ok.n1⟩⟩
  rw [← ea]
  clear h ok hd hN hWA q1 q2 oa hm hd1 ea hN2   
  go_enter Try.func70, Try.ntmps70
  go_upto_region 15 with fail
  rw [← EW.out]
  clear c8 c5 s5 wa c6  s6 nv0 wn 
  have g4 : WA.cell? ⟨B, 4, none⟩ = some (.int .i64 (d1.cur : Int)) := Q.out.1.cell 4 rfl
  have f4 := Q.out.1.soft 4
  obtain ⟨t1, t2⟩ := Q.out.1.put (d' := { d1 with cur := 1 }) 4 (.int .i64 1) rfl rfl rfl (by show 1 < 2; omega)
  have Z : Hid (IsR base (WA.setCell ⟨B, 4, none⟩ (.int .i64 1)) B { d1 with cur := 1 } ∧ RM w (WA.setCell ⟨B, 4, none⟩ (.int .i64 1)) B d { d1 with cur := 1 }) := ⟨t1, Q.out.2.1.trans t2⟩
  clear t1 t2
  go_wp2_with fail
  go_ret
  exact ⟨rfl, _, Z.out.1, Z.out.2, rfl⟩
set_option maxRecDepth 100000 in
set_option maxHeartbeats 4000000 in
theorem rA_4_1_2 (base B : Nat) (d : RK) (a : Option Addr) (n c : Nat) (l : List Nat) (w : World) (h : IsR base w B d) (ok : d.ab.Ok) (hd : d.dead = false) (hN : d.named = 1) (hdn : d.done = true) :
    Calls Try.prog 70 #[.pointer (some ⟨B, 0, none⟩), .int .i64 4, .int .i64 1, .slice a n c] w fun x w' => x = .returned (.int .i64 60) ∧ ∃ d', IsR base w' B d' ∧ RM w w' B d d' ∧ d'.ab = d.ab.stopped.counted.put 4 1 l := by
  have c8 : w.cell? ⟨B, 8, none⟩ = some (.bool false) := by rw [← hd]; exact h.cell 8 rfl
  have c5 : w.cell? ⟨B, 5, none⟩ = some (.int .i64 (d.acts : Int)) := h.cell 5 rfl
  have s5 := h.soft 5
  have oa : d.acts + 1 ≤ Lim := ok.acts
  unfold Lim at oa
  obtain ⟨m, hm⟩ : ∃ m, d.acts + 1 = m := ⟨_, rfl⟩
  have wa : IntKind.i64.wrap ((d.acts : Int) + 1) = (m : Int) := by rw [IntKind.wrap_i64]; omega
  have LO : Hid (base ≤ w.heap.size) := by have := h.low; have := block_lt h.blk; show base ≤ w.heap.size; omega
  have c6 : w.cell? ⟨B, 6, none⟩ = some (.int .i64 1) := by rw [← hN]; exact h.cell 6 rfl
  have c7 : w.cell? ⟨B, 7, none⟩ = some (.bool true) := by rw [← hdn]; exact h.cell 7 rfl
  have s6 := h.soft 6
  have s8 := h.soft 8
  have wz : IntKind.i64.wrap (1 - 1) = 0 := by decide
  have wz' : IntKind.i64.wrap 0 = 0 := by decide
  obtain ⟨d1, hd1⟩ : ∃ d1 : RK, d1 = { d with named := 0, dead := true, acts := m } := ⟨_, rfl⟩
  obtain ⟨p1, p2⟩ := h.put (d' := { d with named := 0 }) 6 (.int .i64 0) rfl rfl rfl h.two
  obtain ⟨t1, t2⟩ := p1.put (d' := { d with named := 0, dead := true }) 8 (.bool true) rfl rfl rfl h.two
  obtain ⟨q1, q2⟩ := t1.put (d' := d1) 5 (.int .i64 (m : Int)) (by rw [hd1]) (by rw [hd1]) (by rw [hd1]; rfl) (by rw [hd1]; exact h.two)
  obtain ⟨WA, hWA⟩ : ∃ WA, WA = ((w.setCell ⟨B, 6, none⟩ (.int .i64 0)).setCell ⟨B, 8, none⟩ (.bool true)).setCell ⟨B, 5, none⟩ (.int .i64 (m : Int)) := ⟨_, rfl⟩
  rw [← hWA] at q1 q2
  have q2 := (p2.trans t2).trans q2
  have ea : d1.ab = d.ab.stopped.counted := by rw [hd1, ← hm]; rfl
  clear p1 p2 t1 t2
  have EW : Hid (WA = ((w.setCell ⟨B, 6, none⟩ (.int .i64 0)).setCell ⟨B, 8, none⟩ (.bool true)).setCell ⟨B, 5, none⟩ (.int .i64 (m : Int))) := hWA
  have sz1 : d1.s0 = d.s0 ∧ d1.s1 = d.s1 := by rw [hd1]; exact ⟨rfl, rfl⟩
  have Q : Hid (IsR base WA B d1 ∧ RM w WA B d d1 ∧ base ≤ WA.heap.size ∧ d1.ab.Ok' d.ab) := ⟨q1, q2, Nat.le_trans LO.out q2.kept.size, by rw [hd1]; exact ⟨ok.w0, ok.w1, ok.n0, ok.n1⟩⟩
  rw [← ea]
  clear h ok hd hN hWA q1 q2 oa hm hd1 ea  hdn  
  go_enter Try.func70, Try.ntmps70
  go_upto_region 15 with fail
  rw [← EW.out]
  clear c8 c5 s5 wa c6 c7 s6 s8 wz wz'  
  have g4 : WA.cell? ⟨B, 4, none⟩ = some (.int .i64 (d1.cur : Int)) := Q.out.1.cell 4 rfl
  have f4 := Q.out.1.soft 4
  obtain ⟨t1, t2⟩ := Q.out.1.put (d' := { d1 with cur := 1 }) 4 (.int .i64 1) rfl rfl rfl (by show 1 < 2; omega)
  have Z : Hid (IsR base (WA.setCell ⟨B, 4, none⟩ (.int .i64 1)) B { d1 with cur := 1 } ∧ RM w (WA.setCell ⟨B, 4, none⟩ (.int .i64 1)) B d { d1 with cur := 1 }) := ⟨t1, Q.out.2.1.trans t2⟩
  clear t1 t2
  go_wp2_with fail
  go_ret
  exact ⟨rfl, _, Z.out.1, Z.out.2, rfl⟩
set_option maxRecDepth 100000 in
set_option maxHeartbeats 4000000 in
theorem rA_3_0_0 (base B : Nat) (d : RK) (a : Option Addr) (n c : Nat) (l : List Nat) (w : World) (h : IsR base w B d) (ok : d.ab.Ok) (hd : d.dead = false) (hN : d.named = 0) :
    Calls Try.prog 70 #[.pointer (some ⟨B, 0, none⟩), .int .i64 3, .int .i64 0, .slice a n c] w fun x w' => x = .returned (.int .i64 0) ∧ ∃ d', IsR base w' B d' ∧ RM w w' B d d' ∧ d'.ab = d.ab.tick.counted.put 3 0 l := by
  have c8 : w.cell? ⟨B, 8, none⟩ = some (.bool false) := by rw [← hd]; exact h.cell 8 rfl
  have c5 : w.cell? ⟨B, 5, none⟩ = some (.int .i64 (d.acts : Int)) := h.cell 5 rfl
  have s5 := h.soft 5
  have oa : d.acts + 1 ≤ Lim := ok.acts
  unfold Lim at oa
  obtain ⟨m, hm⟩ : ∃ m, d.acts + 1 = m := ⟨_, rfl⟩
  have wa : IntKind.i64.wrap ((d.acts : Int) + 1) = (m : Int) := by rw [IntKind.wrap_i64]; omega
  have LO : Hid (base ≤ w.heap.size) := by have := h.low; have := block_lt h.blk; show base ≤ w.heap.size; omega
  have c6 : w.cell? ⟨B, 6, none⟩ = some (.int .i64 0) := by rw [← hN]; exact h.cell 6 rfl
  obtain ⟨d1, hd1⟩ : ∃ d1 : RK, d1 = { d with acts := m } := ⟨_, rfl⟩
  obtain ⟨q1, q2⟩ := h.put (d' := d1) 5 (.int .i64 (m : Int)) (by rw [hd1]) (by rw [hd1]) (by rw [hd1]; rfl) (by rw [hd1]; exact h.two)
  obtain ⟨WA, hWA⟩ : ∃ WA, WA = w.setCell ⟨B, 5, none⟩ (.int .i64 (m : Int)) := ⟨_, rfl⟩
  rw [← hWA] at q1 q2
  have ea : d1.ab = d.ab.tick.counted := by rw [tick_free (show d.ab.named = 0 from hN), hd1, ← hm]; rfl
  have EW : Hid (WA = w.setCell ⟨B, 5, none⟩ (.int .i64 (m : Int))) := hWA
  have sz1 : d1.s0 = d.s0 ∧ d1.s1 = d.s1 := by rw [hd1]; exact ⟨rfl, rfl⟩
  have Q : Hid (IsR base WA B d1 ∧ RM w WA B d d1 ∧ base ≤ WA.heap.size ∧ d1.ab.Ok' d.ab) := ⟨q1, q2, Nat.le_trans LO.out q2.kept.size, by rw [hd1]; exact ⟨ok.w0, ok.w1, ok.n0, ok.n1⟩⟩
  rw [← ea]
  clear h ok hd hN hWA q1 q2 oa hm hd1 ea    
  go_enter Try.func70, Try.ntmps70
  go_upto_region 15 with fail
  rw [← EW.out]
  clear c8 c5 s5 wa c6   
  go_upto_region 22 with fail
  have KD : Hid (Kept (fun _ => False) WA WA.drew) := (Kept.refl (fun _ => False) WA).drew
  have g0 : WA.cell? ⟨B, 0, none⟩ = some (.slice d1.s0.a d1.s0.n d1.s0.c) := Q.out.1.cell 0 rfl
  go_region_held3 (fun _ => True) (first | trivial)
    (first
      | (go_at_call 69; refine (rnow_0 base B d1.s0 WA.drew (Q.out.1.kept0 KD.out).z0 ((Q.out.1.kept0 KD.out).cell 0 rfl) ((Q.out.1.kept0 KD.out).cell 2 rfl) Q.out.2.2.2.w0).mono ?_; rintro x w2 ⟨a2, n2, k2, rfl, o2, K2⟩
         have X2 : Hid (w2.ownsRow WA.heap.size 5 1 (.slice a2 n2 k2) n2 (cellsOf (redoL d1.s0.l d1.s0.xs)) ∧ Kept (fun _ => False) WA w2) := ⟨o2, KD.out.trans K2 (fun _ _ z => z)⟩
         have I2 := Q.out.1.kept0 X2.out.2
         have i0 : w2.cell? ⟨B, 0, none⟩ = some (.slice d1.s0.a d1.s0.n d1.s0.c) := I2.cell 0 rfl
         have i1 := I2.soft 0
         have i2 : w2.cell? ⟨B, 2, none⟩ = some (.slice d1.s0.la d1.s0.ln d1.s0.lc) := I2.cell 2 rfl
         have i3 := I2.soft 2
         clear o2 K2 I2)
      | fail)
  obtain ⟨t1, t2⟩ := Q.out.1.synced0 X2.out.2 X2.out.1 (redoL_bytes _ _ Q.out.1.z0.bytes (rgood_bytes Q.out.1.z0.good))
  have Z : Hid (IsR base ((w2.setCell ⟨B, 0, none⟩ (.slice a2 n2 k2)).setCell ⟨B, 2, none⟩ (.slice none 0 0)) B { d1 with s0 := ⟨a2, n2, k2, redoL d1.s0.l d1.s0.xs, none, 0, 0, []⟩ } ∧ RM w ((w2.setCell ⟨B, 0, none⟩ (.slice a2 n2 k2)).setCell ⟨B, 2, none⟩ (.slice none 0 0)) B d { d1 with s0 := ⟨a2, n2, k2, redoL d1.s0.l d1.s0.xs, none, 0, 0, []⟩ }) := ⟨t1, Q.out.2.1.trans t2⟩
  clear t1 t2
  go_wp2_with fail
  go_ret
  exact ⟨rfl, _, Z.out.1, Z.out.2, rfl⟩
set_option maxRecDepth 100000 in
set_option maxHeartbeats 4000000 in
theorem rA_3_0_1 (base B : Nat) (d : RK) (a : Option Addr) (n c : Nat) (l : List Nat) (w : World) (h : IsR base w B d) (ok : d.ab.Ok) (hd : d.dead = false) (hN : 1 < d.named) (hN2 : d.named < 9223372036854775808) :
    Calls Try.prog 70 #[.pointer (some ⟨B, 0, none⟩), .int .i64 3, .int .i64 0, .slice a n c] w fun x w' => x = .returned (.int .i64 0) ∧ ∃ d', IsR base w' B d' ∧ RM w w' B d d' ∧ d'.ab = d.ab.tick.counted.put 3 0 l := by
  have c8 : w.cell? ⟨B, 8, none⟩ = some (.bool false) := by rw [← hd]; exact h.cell 8 rfl
  have c5 : w.cell? ⟨B, 5, none⟩ = some (.int .i64 (d.acts : Int)) := h.cell 5 rfl
  have s5 := h.soft 5
  have oa : d.acts + 1 ≤ Lim := ok.acts
  unfold Lim at oa
  obtain ⟨m, hm⟩ : ∃ m, d.acts + 1 = m := ⟨_, rfl⟩
  have wa : IntKind.i64.wrap ((d.acts : Int) + 1) = (m : Int) := by rw [IntKind.wrap_i64]; omega
  have LO : Hid (base ≤ w.heap.size) := by have := h.low; have := block_lt h.blk; show base ≤ w.heap.size; omega
  have c6 : w.cell? ⟨B, 6, none⟩ = some (.int .i64 d.named) := h.cell 6 rfl
  have s6 := h.soft 6
  obtain ⟨nv, hnv⟩ : ∃ nv, nv = d.named := ⟨_, rfl⟩
  rw [← hnv] at c6
  have nv0 : nv > 0 := by omega
  have nv1 : ¬ nv = 1 := by omega
  obtain ⟨nw, hnw⟩ : ∃ nw : Int, nw = nv - 1 := ⟨_, rfl⟩
  have wn : IntKind.i64.wrap (nv - 1) = nw := by rw [IntKind.wrap_i64]; omega
  obtain ⟨d1, hd1⟩ : ∃ d1 : RK, d1 = { d with named := nw, acts := m } := ⟨_, rfl⟩
  obtain ⟨p1, p2⟩ := h.put (d' := { d with named := nw }) 6 (.int .i64 nw) rfl rfl rfl h.two
  obtain ⟨q1, q2⟩ := p1.put (d' := d1) 5 (.int .i64 (m : Int)) (by rw [hd1]) (by rw [hd1]) (by rw [hd1]; rfl) (by rw [hd1]; exact h.two)
  obtain ⟨WA, hWA⟩ : ∃ WA, WA = (w.setCell ⟨B, 6, none⟩ (.int .i64 nw)).setCell ⟨B, 5, none⟩ (.int .i64 (m : Int)) := ⟨_, rfl⟩
  rw [← hWA] at q1 q2
  have q2 := p2.trans q2
  have ea : d1.ab = d.ab.tick.counted := by
    rw [hd1, ← hm]
    show _ = (AB.tick d.ab).counted
    unfold AB.tick
    rw [show d.ab.named = nv from hnv.symm, if_neg (by omega), ← hnw]
    rfl
  clear p1 p2 hnw hnv
  have EW : Hid (WA = (w.setCell ⟨B, 6, none⟩ (.int .i64 nw)).setCell ⟨B, 5, none⟩ (.int .i64 (m : Int))) := hWA
  have sz1 : d1.s0 = d.s0 ∧ d1.s1 = d.s1 := by rw [hd1]; exact ⟨rfl, rfl⟩
  have Q : Hid (IsR base WA B d1 ∧ RM w WA B d d1 ∧ base ≤ WA.heap.size ∧ d1.ab.Ok' d.ab) := ⟨q1, q2, Nat.le_trans LO.out q2.kept.size, by rw [hd1]; exact ⟨ok.w0, ok.w1, ok.n0, ok.n1⟩⟩
  rw [← ea]
  clear h ok hd hN hWA q1 q2 oa hm hd1 ea hN2   
  go_enter Try.func70, Try.ntmps70
  go_upto_region 15 with fail
  rw [← EW.out]
  clear c8 c5 s5 wa c6  s6 nv0 wn 
  go_upto_region 22 with fail
  have KD : Hid (Kept (fun _ => False) WA WA.drew) := (Kept.refl (fun _ => False) WA).drew
  have g0 : WA.cell? ⟨B, 0, none⟩ = some (.slice d1.s0.a d1.s0.n d1.s0.c) := Q.out.1.cell 0 rfl
  go_region_held3 (fun _ => True) (first | trivial)
    (first
      | (go_at_call 69; refine (rnow_0 base B d1.s0 WA.drew (Q.out.1.kept0 KD.out).z0 ((Q.out.1.kept0 KD.out).cell 0 rfl) ((Q.out.1.kept0 KD.out).cell 2 rfl) Q.out.2.2.2.w0).mono ?_; rintro x w2 ⟨a2, n2, k2, rfl, o2, K2⟩
         have X2 : Hid (w2.ownsRow WA.heap.size 5 1 (.slice a2 n2 k2) n2 (cellsOf (redoL d1.s0.l d1.s0.xs)) ∧ Kept (fun _ => False) WA w2) := ⟨o2, KD.out.trans K2 (fun _ _ z => z)⟩
         have I2 := Q.out.1.kept0 X2.out.2
         have i0 : w2.cell? ⟨B, 0, none⟩ = some (.slice d1.s0.a d1.s0.n d1.s0.c) := I2.cell 0 rfl
         have i1 := I2.soft 0
         have i2 : w2.cell? ⟨B, 2, none⟩ = some (.slice d1.s0.la d1.s0.ln d1.s0.lc) := I2.cell 2 rfl
         have i3 := I2.soft 2
         clear o2 K2 I2)
      | fail)
  obtain ⟨t1, t2⟩ := Q.out.1.synced0 X2.out.2 X2.out.1 (redoL_bytes _ _ Q.out.1.z0.bytes (rgood_bytes Q.out.1.z0.good))
  have Z : Hid (IsR base ((w2.setCell ⟨B, 0, none⟩ (.slice a2 n2 k2)).setCell ⟨B, 2, none⟩ (.slice none 0 0)) B { d1 with s0 := ⟨a2, n2, k2, redoL d1.s0.l d1.s0.xs, none, 0, 0, []⟩ } ∧ RM w ((w2.setCell ⟨B, 0, none⟩ (.slice a2 n2 k2)).setCell ⟨B, 2, none⟩ (.slice none 0 0)) B d { d1 with s0 := ⟨a2, n2, k2, redoL d1.s0.l d1.s0.xs, none, 0, 0, []⟩ }) := ⟨t1, Q.out.2.1.trans t2⟩
  clear t1 t2
  go_wp2_with fail
  go_ret
  exact ⟨rfl, _, Z.out.1, Z.out.2, rfl⟩
set_option maxRecDepth 100000 in
set_option maxHeartbeats 4000000 in
theorem rA_3_0_2 (base B : Nat) (d : RK) (a : Option Addr) (n c : Nat) (l : List Nat) (w : World) (h : IsR base w B d) (ok : d.ab.Ok) (hd : d.dead = false) (hN : d.named = 1) (hdn : d.done = true) :
    Calls Try.prog 70 #[.pointer (some ⟨B, 0, none⟩), .int .i64 3, .int .i64 0, .slice a n c] w fun x w' => x = .returned (.int .i64 60) ∧ ∃ d', IsR base w' B d' ∧ RM w w' B d d' ∧ d'.ab = d.ab.stopped.counted.put 3 0 l := by
  have c8 : w.cell? ⟨B, 8, none⟩ = some (.bool false) := by rw [← hd]; exact h.cell 8 rfl
  have c5 : w.cell? ⟨B, 5, none⟩ = some (.int .i64 (d.acts : Int)) := h.cell 5 rfl
  have s5 := h.soft 5
  have oa : d.acts + 1 ≤ Lim := ok.acts
  unfold Lim at oa
  obtain ⟨m, hm⟩ : ∃ m, d.acts + 1 = m := ⟨_, rfl⟩
  have wa : IntKind.i64.wrap ((d.acts : Int) + 1) = (m : Int) := by rw [IntKind.wrap_i64]; omega
  have LO : Hid (base ≤ w.heap.size) := by have := h.low; have := block_lt h.blk; show base ≤ w.heap.size; omega
  have c6 : w.cell? ⟨B, 6, none⟩ = some (.int .i64 1) := by rw [← hN]; exact h.cell 6 rfl
  have c7 : w.cell? ⟨B, 7, none⟩ = some (.bool true) := by rw [← hdn]; exact h.cell 7 rfl
  have s6 := h.soft 6
  have s8 := h.soft 8
  have wz : IntKind.i64.wrap (1 - 1) = 0 := by decide
  have wz' : IntKind.i64.wrap 0 = 0 := by decide
  obtain ⟨d1, hd1⟩ : ∃ d1 : RK, d1 = { d with named := 0, dead := true, acts := m } := ⟨_, rfl⟩
  obtain ⟨p1, p2⟩ := h.put (d' := { d with named := 0 }) 6 (.int .i64 0) rfl rfl rfl h.two
  obtain ⟨t1, t2⟩ := p1.put (d' := { d with named := 0, dead := true }) 8 (.bool true) rfl rfl rfl h.two
  obtain ⟨q1, q2⟩ := t1.put (d' := d1) 5 (.int .i64 (m : Int)) (by rw [hd1]) (by rw [hd1]) (by rw [hd1]; rfl) (by rw [hd1]; exact h.two)
  obtain ⟨WA, hWA⟩ : ∃ WA, WA = ((w.setCell ⟨B, 6, none⟩ (.int .i64 0)).setCell ⟨B, 8, none⟩ (.bool true)).setCell ⟨B, 5, none⟩ (.int .i64 (m : Int)) := ⟨_, rfl⟩
  rw [← hWA] at q1 q2
  have q2 := (p2.trans t2).trans q2
  have ea : d1.ab = d.ab.stopped.counted := by rw [hd1, ← hm]; rfl
  clear p1 p2 t1 t2
  have EW : Hid (WA = ((w.setCell ⟨B, 6, none⟩ (.int .i64 0)).setCell ⟨B, 8, none⟩ (.bool true)).setCell ⟨B, 5, none⟩ (.int .i64 (m : Int))) := hWA
  have sz1 : d1.s0 = d.s0 ∧ d1.s1 = d.s1 := by rw [hd1]; exact ⟨rfl, rfl⟩
  have Q : Hid (IsR base WA B d1 ∧ RM w WA B d d1 ∧ base ≤ WA.heap.size ∧ d1.ab.Ok' d.ab) := ⟨q1, q2, Nat.le_trans LO.out q2.kept.size, by rw [hd1]; exact ⟨ok.w0, ok.w1, ok.n0, ok.n1⟩⟩
  rw [← ea]
  clear h ok hd hN hWA q1 q2 oa hm hd1 ea  hdn  
  go_enter Try.func70, Try.ntmps70
  go_upto_region 15 with fail
  rw [← EW.out]
  clear c8 c5 s5 wa c6 c7 s6 s8 wz wz'  
  go_upto_region 22 with fail
  have KD : Hid (Kept (fun _ => False) WA WA.drew) := (Kept.refl (fun _ => False) WA).drew
  have g0 : WA.cell? ⟨B, 0, none⟩ = some (.slice d1.s0.a d1.s0.n d1.s0.c) := Q.out.1.cell 0 rfl
  go_region_held3 (fun _ => True) (first | trivial)
    (first
      | (go_at_call 69; refine (rnow_0 base B d1.s0 WA.drew (Q.out.1.kept0 KD.out).z0 ((Q.out.1.kept0 KD.out).cell 0 rfl) ((Q.out.1.kept0 KD.out).cell 2 rfl) Q.out.2.2.2.w0).mono ?_; rintro x w2 ⟨a2, n2, k2, rfl, o2, K2⟩
         have X2 : Hid (w2.ownsRow WA.heap.size 5 1 (.slice a2 n2 k2) n2 (cellsOf (redoL d1.s0.l d1.s0.xs)) ∧ Kept (fun _ => False) WA w2) := ⟨o2, KD.out.trans K2 (fun _ _ z => z)⟩
         have I2 := Q.out.1.kept0 X2.out.2
         have i0 : w2.cell? ⟨B, 0, none⟩ = some (.slice d1.s0.a d1.s0.n d1.s0.c) := I2.cell 0 rfl
         have i1 := I2.soft 0
         have i2 : w2.cell? ⟨B, 2, none⟩ = some (.slice d1.s0.la d1.s0.ln d1.s0.lc) := I2.cell 2 rfl
         have i3 := I2.soft 2
         clear o2 K2 I2)
      | fail)
  obtain ⟨t1, t2⟩ := Q.out.1.synced0 X2.out.2 X2.out.1 (redoL_bytes _ _ Q.out.1.z0.bytes (rgood_bytes Q.out.1.z0.good))
  have Z : Hid (IsR base ((w2.setCell ⟨B, 0, none⟩ (.slice a2 n2 k2)).setCell ⟨B, 2, none⟩ (.slice none 0 0)) B { d1 with s0 := ⟨a2, n2, k2, redoL d1.s0.l d1.s0.xs, none, 0, 0, []⟩ } ∧ RM w ((w2.setCell ⟨B, 0, none⟩ (.slice a2 n2 k2)).setCell ⟨B, 2, none⟩ (.slice none 0 0)) B d { d1 with s0 := ⟨a2, n2, k2, redoL d1.s0.l d1.s0.xs, none, 0, 0, []⟩ }) := ⟨t1, Q.out.2.1.trans t2⟩
  clear t1 t2
  go_wp2_with fail
  go_ret
  exact ⟨rfl, _, Z.out.1, Z.out.2, rfl⟩
set_option maxRecDepth 100000 in
set_option maxHeartbeats 4000000 in
theorem rA_3_1_0 (base B : Nat) (d : RK) (a : Option Addr) (n c : Nat) (l : List Nat) (w : World) (h : IsR base w B d) (ok : d.ab.Ok) (hd : d.dead = false) (hN : d.named = 0) :
    Calls Try.prog 70 #[.pointer (some ⟨B, 0, none⟩), .int .i64 3, .int .i64 1, .slice a n c] w fun x w' => x = .returned (.int .i64 0) ∧ ∃ d', IsR base w' B d' ∧ RM w w' B d d' ∧ d'.ab = d.ab.tick.counted.put 3 1 l := by
  have c8 : w.cell? ⟨B, 8, none⟩ = some (.bool false) := by rw [← hd]; exact h.cell 8 rfl
  have c5 : w.cell? ⟨B, 5, none⟩ = some (.int .i64 (d.acts : Int)) := h.cell 5 rfl
  have s5 := h.soft 5
  have oa : d.acts + 1 ≤ Lim := ok.acts
  unfold Lim at oa
  obtain ⟨m, hm⟩ : ∃ m, d.acts + 1 = m := ⟨_, rfl⟩
  have wa : IntKind.i64.wrap ((d.acts : Int) + 1) = (m : Int) := by rw [IntKind.wrap_i64]; omega
  have LO : Hid (base ≤ w.heap.size) := by have := h.low; have := block_lt h.blk; show base ≤ w.heap.size; omega
  have c6 : w.cell? ⟨B, 6, none⟩ = some (.int .i64 0) := by rw [← hN]; exact h.cell 6 rfl
  obtain ⟨d1, hd1⟩ : ∃ d1 : RK, d1 = { d with acts := m } := ⟨_, rfl⟩
  obtain ⟨q1, q2⟩ := h.put (d' := d1) 5 (.int .i64 (m : Int)) (by rw [hd1]) (by rw [hd1]) (by rw [hd1]; rfl) (by rw [hd1]; exact h.two)
  obtain ⟨WA, hWA⟩ : ∃ WA, WA = w.setCell ⟨B, 5, none⟩ (.int .i64 (m : Int)) := ⟨_, rfl⟩
  rw [← hWA] at q1 q2
  have ea : d1.ab = d.ab.tick.counted := by rw [tick_free (show d.ab.named = 0 from hN), hd1, ← hm]; rfl
  have EW : Hid (WA = w.setCell ⟨B, 5, none⟩ (.int .i64 (m : Int))) := hWA
  have sz1 : d1.s0 = d.s0 ∧ d1.s1 = d.s1 := by rw [hd1]; exact ⟨rfl, rfl⟩
  have Q : Hid (IsR base WA B d1 ∧ RM w WA B d d1 ∧ base ≤ WA.heap.size ∧ d1.ab.Ok' d.ab) := ⟨q1, q2, Nat.le_trans LO.out q2.kept.size, by rw [hd1]; exact ⟨ok.w0, ok.w1, ok.n0, ok.n1⟩⟩
  rw [← ea]
  clear h ok hd hN hWA q1 q2 oa hm hd1 ea    
  go_enter Try.func70, Try.ntmps70
  go_upto_region 15 with fail
  rw [← EW.out]
  clear c8 c5 s5 wa c6   
  go_upto_region 22 with fail
  have KD : Hid (Kept (fun _ => False) WA WA.drew) := (Kept.refl (fun _ => False) WA).drew
  have g0 : WA.cell? ⟨B, 1, none⟩ = some (.slice d1.s1.a d1.s1.n d1.s1.c) := Q.out.1.cell 1 rfl
  go_region_held3 (fun _ => True) (first | trivial)
    (first
      | (go_at_call 69; refine (rnow_1 base B d1.s1 WA.drew (Q.out.1.kept0 KD.out).z1 ((Q.out.1.kept0 KD.out).cell 1 rfl) ((Q.out.1.kept0 KD.out).cell 3 rfl) Q.out.2.2.2.w1).mono ?_; rintro x w2 ⟨a2, n2, k2, rfl, o2, K2⟩
         have X2 : Hid (w2.ownsRow WA.heap.size 5 1 (.slice a2 n2 k2) n2 (cellsOf (redoL d1.s1.l d1.s1.xs)) ∧ Kept (fun _ => False) WA w2) := ⟨o2, KD.out.trans K2 (fun _ _ z => z)⟩
         have I2 := Q.out.1.kept0 X2.out.2
         have i0 : w2.cell? ⟨B, 1, none⟩ = some (.slice d1.s1.a d1.s1.n d1.s1.c) := I2.cell 1 rfl
         have i1 := I2.soft 1
         have i2 : w2.cell? ⟨B, 3, none⟩ = some (.slice d1.s1.la d1.s1.ln d1.s1.lc) := I2.cell 3 rfl
         have i3 := I2.soft 3
         clear o2 K2 I2)
      | fail)
  obtain ⟨t1, t2⟩ := Q.out.1.synced1 X2.out.2 X2.out.1 (redoL_bytes _ _ Q.out.1.z1.bytes (rgood_bytes Q.out.1.z1.good))
  have Z : Hid (IsR base ((w2.setCell ⟨B, 1, none⟩ (.slice a2 n2 k2)).setCell ⟨B, 3, none⟩ (.slice none 0 0)) B { d1 with s1 := ⟨a2, n2, k2, redoL d1.s1.l d1.s1.xs, none, 0, 0, []⟩ } ∧ RM w ((w2.setCell ⟨B, 1, none⟩ (.slice a2 n2 k2)).setCell ⟨B, 3, none⟩ (.slice none 0 0)) B d { d1 with s1 := ⟨a2, n2, k2, redoL d1.s1.l d1.s1.xs, none, 0, 0, []⟩ }) := ⟨t1, Q.out.2.1.trans t2⟩
  clear t1 t2
  go_wp2_with fail
  go_ret
  exact ⟨rfl, _, Z.out.1, Z.out.2, rfl⟩
set_option maxRecDepth 100000 in
set_option maxHeartbeats 4000000 in
theorem rA_3_1_1 (base B : Nat) (d : RK) (a : Option Addr) (n c : Nat) (l : List Nat) (w : World) (h : IsR base w B d) (ok : d.ab.Ok) (hd : d.dead = false) (hN : 1 < d.named) (hN2 : d.named < 9223372036854775808) :
    Calls Try.prog 70 #[.pointer (some ⟨B, 0, none⟩), .int .i64 3, .int .i64 1, .slice a n c] w fun x w' => x = .returned (.int .i64 0) ∧ ∃ d', IsR base w' B d' ∧ RM w w' B d d' ∧ d'.ab = d.ab.tick.counted.put 3 1 l := by
  have c8 : w.cell? ⟨B, 8, none⟩ = some (.bool false) := by rw [← hd]; exact h.cell 8 rfl
  have c5 : w.cell? ⟨B, 5, none⟩ = some (.int .i64 (d.acts : Int)) := h.cell 5 rfl
  have s5 := h.soft 5
  have oa : d.acts + 1 ≤ Lim := ok.acts
  unfold Lim at oa
  obtain ⟨m, hm⟩ : ∃ m, d.acts + 1 = m := ⟨_, rfl⟩
  have wa : IntKind.i64.wrap ((d.acts : Int) + 1) = (m : Int) := by rw [IntKind.wrap_i64]; omega
  have LO : Hid (base ≤ w.heap.size) := by have := h.low; have := block_lt h.blk; show base ≤ w.heap.size; omega
  have c6 : w.cell? ⟨B, 6, none⟩ = some (.int .i64 d.named) := h.cell 6 rfl
  have s6 := h.soft 6
  obtain ⟨nv, hnv⟩ : ∃ nv, nv = d.named := ⟨_, rfl⟩
  rw [← hnv] at c6
  have nv0 : nv > 0 := by omega
  have nv1 : ¬ nv = 1 := by omega
  obtain ⟨nw, hnw⟩ : ∃ nw : Int, nw = nv - 1 := ⟨_, rfl⟩
  have wn : IntKind.i64.wrap (nv - 1) = nw := by rw [IntKind.wrap_i64]; omega
  obtain ⟨d1, hd1⟩ : ∃ d1 : RK, d1 = { d with named := nw, acts := m } := ⟨_, rfl⟩
  obtain ⟨p1, p2⟩ := h.put (d' := { d with named := nw }) 6 (.int .i64 nw) rfl rfl rfl h.two
  obtain ⟨q1, q2⟩ := p1.put (d' := d1) 5 (.int .i64 (m : Int)) (by rw [hd1]) (by rw [hd1]) (by rw [hd1]; rfl) (by rw [hd1]; exact h.two)
  obtain ⟨WA, hWA⟩ : ∃ WA, WA = (w.setCell ⟨B, 6, none⟩ (.int .i64 nw)).setCell ⟨B, 5, none⟩ (.int .i64 (m : Int)) := ⟨_, rfl⟩
  rw [← hWA] at q1 q2
  have q2 := p2.trans q2
  have ea : d1.ab = d.ab.tick.counted := by
    rw [hd1, ← hm]
    show _ = (AB.tick d.ab).counted
    unfold AB.tick
    rw [show d.ab.named = nv from hnv.symm, if_neg (by omega), ← hnw]
    rfl
  clear p1 p2 hnw hnv
  have EW : Hid (WA = (w.setCell ⟨B, 6, none⟩ (.int .i64 nw)).setCell ⟨B, 5, none⟩ (.int .i64 (m : Int))) := hWA
  have sz1 : d1.s0 = d.s0 ∧ d1.s1 = d.s1 := by rw [hd1]; exact ⟨rfl, rfl⟩
  have Q : Hid (IsR base WA B d1 ∧ RM w WA B d d1 ∧ base ≤ WA.heap.size ∧ d1.ab.Ok' d.ab) := ⟨q1, q2, Nat.le_trans LO.out q2.kept.size, by rw [hd1]; exact ⟨ok.w0, ok.w1, ok.n0, ok.n1⟩⟩
  rw [← ea]
  clear h ok hd hN hWA q1 q2 oa hm hd1 ea hN2   
  go_enter Try.func70, Try.ntmps70
  go_upto_region 15 with fail
  rw [← EW.out]
  clear c8 c5 s5 wa c6  s6 nv0 wn 
  go_upto_region 22 with fail
  have KD : Hid (Kept (fun _ => False) WA WA.drew) := (Kept.refl (fun _ => False) WA).drew
  have g0 : WA.cell? ⟨B, 1, none⟩ = some (.slice d1.s1.a d1.s1.n d1.s1.c) := Q.out.1.cell 1 rfl
  go_region_held3 (fun _ => True) (first | trivial)
    (first
      | (go_at_call 69; refine (rnow_1 base B d1.s1 WA.drew (Q.out.1.kept0 KD.out).z1 ((Q.out.1.kept0 KD.out).cell 1 rfl) ((Q.out.1.kept0 KD.out).cell 3 rfl) Q.out.2.2.2.w1).mono ?_; rintro x w2 ⟨a2, n2, k2, rfl, o2, K2⟩
         have X2 : Hid (w2.ownsRow WA.heap.size 5 1 (.slice a2 n2 k2) n2 (cellsOf (redoL d1.s1.l d1.s1.xs)) ∧ Kept (fun _ => False) WA w2) := ⟨o2, KD.out.trans K2 (fun _ _ z => z)⟩
         have I2 := Q.out.1.kept0 X2.out.2
         have i0 : w2.cell? ⟨B, 1, none⟩ = some (.slice d1.s1.a d1.s1.n d1.s1.c) := I2.cell 1 rfl
         have i1 := I2.soft 1
         have i2 : w2.cell? ⟨B, 3, none⟩ = some (.slice d1.s1.la d1.s1.ln d1.s1.lc) := I2.cell 3 rfl
         have i3 := I2.soft 3
         clear o2 K2 I2)
      | fail)
  obtain ⟨t1, t2⟩ := Q.out.1.synced1 X2.out.2 X2.out.1 (redoL_bytes _ _ Q.out.1.z1.bytes (rgood_bytes Q.out.1.z1.good))
  have Z : Hid (IsR base ((w2.setCell ⟨B, 1, none⟩ (.slice a2 n2 k2)).setCell ⟨B, 3, none⟩ (.slice none 0 0)) B { d1 with s1 := ⟨a2, n2, k2, redoL d1.s1.l d1.s1.xs, none, 0, 0, []⟩ } ∧ RM w ((w2.setCell ⟨B, 1, none⟩ (.slice a2 n2 k2)).setCell ⟨B, 3, none⟩ (.slice none 0 0)) B d { d1 with s1 := ⟨a2, n2, k2, redoL d1.s1.l d1.s1.xs, none, 0, 0, []⟩ }) := ⟨t1, Q.out.2.1.trans t2⟩
  clear t1 t2
  go_wp2_with fail
  go_ret
  exact ⟨rfl, _, Z.out.1, Z.out.2, rfl⟩
set_option maxRecDepth 100000 in
set_option maxHeartbeats 4000000 in
theorem rA_3_1_2 (base B : Nat) (d : RK) (a : Option Addr) (n c : Nat) (l : List Nat) (w : World) (h : IsR base w B d) (ok : d.ab.Ok) (hd : d.dead = false) (hN : d.named = 1) (hdn : d.done = true) :
    Calls Try.prog 70 #[.pointer (some ⟨B, 0, none⟩), .int .i64 3, .int .i64 1, .slice a n c] w fun x w' => x = .returned (.int .i64 60) ∧ ∃ d', IsR base w' B d' ∧ RM w w' B d d' ∧ d'.ab = d.ab.stopped.counted.put 3 1 l := by
  have c8 : w.cell? ⟨B, 8, none⟩ = some (.bool false) := by rw [← hd]; exact h.cell 8 rfl
  have c5 : w.cell? ⟨B, 5, none⟩ = some (.int .i64 (d.acts : Int)) := h.cell 5 rfl
  have s5 := h.soft 5
  have oa : d.acts + 1 ≤ Lim := ok.acts
  unfold Lim at oa
  obtain ⟨m, hm⟩ : ∃ m, d.acts + 1 = m := ⟨_, rfl⟩
  have wa : IntKind.i64.wrap ((d.acts : Int) + 1) = (m : Int) := by rw [IntKind.wrap_i64]; omega
  have LO : Hid (base ≤ w.heap.size) := by have := h.low; have := block_lt h.blk; show base ≤ w.heap.size; omega
  have c6 : w.cell? ⟨B, 6, none⟩ = some (.int .i64 1) := by rw [← hN]; exact h.cell 6 rfl
  have c7 : w.cell? ⟨B, 7, none⟩ = some (.bool true) := by rw [← hdn]; exact h.cell 7 rfl
  have s6 := h.soft 6
  have s8 := h.soft 8
  have wz : IntKind.i64.wrap (1 - 1) = 0 := by decide
  have wz' : IntKind.i64.wrap 0 = 0 := by decide
  obtain ⟨d1, hd1⟩ : ∃ d1 : RK, d1 = { d with named := 0, dead := true, acts := m } := ⟨_, rfl⟩
  obtain ⟨p1, p2⟩ := h.put (d' := { d with named := 0 }) 6 (.int .i64 0) rfl rfl rfl h.two
  obtain ⟨t1, t2⟩ := p1.put (d' := { d with named := 0, dead := true }) 8 (.bool true) rfl rfl rfl h.two
  obtain ⟨q1, q2⟩ := t1.put (d' := d1) 5 (.int .i64 (m : Int)) (by rw [hd1]) (by rw [hd1]) (by rw [hd1]; rfl) (by rw [hd1]; exact h.two)
  obtain ⟨WA, hWA⟩ : ∃ WA, WA = ((w.setCell ⟨B, 6, none⟩ (.int .i64 0)).setCell ⟨B, 8, none⟩ (.bool true)).setCell ⟨B, 5, none⟩ (.int .i64 (m : Int)) := ⟨_, rfl⟩
  rw [← hWA] at q1 q2
  have q2 := (p2.trans t2).trans q2
  have ea : d1.ab = d.ab.stopped.counted := by rw [hd1, ← hm]; rfl
  clear p1 p2 t1 t2
  have EW : Hid (WA = ((w.setCell ⟨B, 6, none⟩ (.int .i64 0)).setCell ⟨B, 8, none⟩ (.bool true)).setCell ⟨B, 5, none⟩ (.int .i64 (m : Int))) := hWA
  have sz1 : d1.s0 = d.s0 ∧ d1.s1 = d.s1 := by rw [hd1]; exact ⟨rfl, rfl⟩
  have Q : Hid (IsR base WA B d1 ∧ RM w WA B d d1 ∧ base ≤ WA.heap.size ∧ d1.ab.Ok' d.ab) := ⟨q1, q2, Nat.le_trans LO.out q2.kept.size, by rw [hd1]; exact ⟨ok.w0, ok.w1, ok.n0, ok.n1⟩⟩
  rw [← ea]
  clear h ok hd hN hWA q1 q2 oa hm hd1 ea  hdn  
  go_enter Try.func70, Try.ntmps70
  go_upto_region 15 with fail
  rw [← EW.out]
  clear c8 c5 s5 wa c6 c7 s6 s8 wz wz'  
  go_upto_region 22 with fail
  have KD : Hid (Kept (fun _ => False) WA WA.drew) := (Kept.refl (fun _ => False) WA).drew
  have g0 : WA.cell? ⟨B, 1, none⟩ = some (.slice d1.s1.a d1.s1.n d1.s1.c) := Q.out.1.cell 1 rfl
  go_region_held3 (fun _ => True) (first | trivial)
    (first
      | (go_at_call 69; refine (rnow_1 base B d1.s1 WA.drew (Q.out.1.kept0 KD.out).z1 ((Q.out.1.kept0 KD.out).cell 1 rfl) ((Q.out.1.kept0 KD.out).cell 3 rfl) Q.out.2.2.2.w1).mono ?_; rintro x w2 ⟨a2, n2, k2, rfl, o2, K2⟩
         have X2 : Hid (w2.ownsRow WA.heap.size 5 1 (.slice a2 n2 k2) n2 (cellsOf (redoL d1.s1.l d1.s1.xs)) ∧ Kept (fun _ => False) WA w2) := ⟨o2, KD.out.trans K2 (fun _ _ z => z)⟩
         have I2 := Q.out.1.kept0 X2.out.2
         have i0 : w2.cell? ⟨B, 1, none⟩ = some (.slice d1.s1.a d1.s1.n d1.s1.c) := I2.cell 1 rfl
         have i1 := I2.soft 1
         have i2 : w2.cell? ⟨B, 3, none⟩ = some (.slice d1.s1.la d1.s1.ln d1.s1.lc) := I2.cell 3 rfl
         have i3 := I2.soft 3
         clear o2 K2 I2)
      | fail)
  obtain ⟨t1, t2⟩ := Q.out.1.synced1 X2.out.2 X2.out.1 (redoL_bytes _ _ Q.out.1.z1.bytes (rgood_bytes Q.out.1.z1.good))
  have Z : Hid (IsR base ((w2.setCell ⟨B, 1, none⟩ (.slice a2 n2 k2)).setCell ⟨B, 3, none⟩ (.slice none 0 0)) B { d1 with s1 := ⟨a2, n2, k2, redoL d1.s1.l d1.s1.xs, none, 0, 0, []⟩ } ∧ RM w ((w2.setCell ⟨B, 1, none⟩ (.slice a2 n2 k2)).setCell ⟨B, 3, none⟩ (.slice none 0 0)) B d { d1 with s1 := ⟨a2, n2, k2, redoL d1.s1.l d1.s1.xs, none, 0, 0, []⟩ }) := ⟨t1, Q.out.2.1.trans t2⟩
  clear t1 t2
  go_wp2_with fail
  go_ret
  exact ⟨rfl, _, Z.out.1, Z.out.2, rfl⟩
end Go.Proofs.Ytbnnmelkbjkkjaa
