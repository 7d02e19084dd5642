import Derived.Test.YtbnnmelkbjkkjaaRefEJ
namespace Go.Proofs.Ytbnnmelkbjkkjaa
open Go.RowKit

/-- Two lists of bytes, as new memory. -/
structure SlL (w w' : World) (l0 l1 : List Nat) (a0 : Option Addr) (n0 c0 : Nat) (a1 : Option Addr) (n1 c1 : Nat) : Prop where
  o0 : w'.ownsRow w.heap.size 5 1 (.slice a0 n0 c0) n0 (cellsOf l0)
  o1 : w'.ownsRow w.heap.size 5 1 (.slice a1 n1 c1) n1 (cellsOf l1)
  ne : ∀ k, blockOf a0 = some k → blockOf a1 ≠ some k
  kept : Kept (fun _ => False) w w'
def toldL (A : AB) (i : Nat) : List Nat := if A.dead = true then [] else A.now i
def toldC (A : AB) : Int := if A.dead = true then 0 else (A.cur : Int)
set_option maxRecDepth 100000 in
theorem dSlots_dead (base B : Nat) (d : DK) (w : World) (h : IsD base w B d) (hd : d.dead = true) :
    Calls Try.prog 26 #[.pointer (some ⟨B, 0, none⟩)] w fun x w' => x = .returned (.tuple #[.agg #[.slice none 0 0, .slice none 0 0], .int .i64 0]) ∧ Kept (fun _ => False) w w' := by
  have c6 : w.cell? ⟨B, 6, none⟩ = some (.bool true) := by rw [← hd]; exact h.cell 6 rfl
  have hB := block_lt h.blk
  clear h hd
  go_enter Try.func26, Try.ntmps26
  go_wp2_with fail
  refine bodyPost_ret (results_row_tmp rfl _ _ w.heap.size 32 _ (0, 0) _ rfl (alloc_new w (.cells #[.slice none 0 0, .slice none 0 0] 32)) Try.underlying32 rfl Try.info32) rfl ?_
  exact ⟨rfl, alloc_kept0 _ _⟩
set_option maxRecDepth 100000 in
theorem rSlots_dead (base B : Nat) (d : RK) (w : World) (h : IsR base w B d) (hd : d.dead = true) :
    Calls Try.prog 53 #[.pointer (some ⟨B, 0, none⟩)] w fun x w' => x = .returned (.tuple #[.agg #[.slice none 0 0, .slice none 0 0], .int .i64 0]) ∧ Kept (fun _ => False) w w' := by
  have c6 : w.cell? ⟨B, 8, none⟩ = some (.bool true) := by rw [← hd]; exact h.cell 8 rfl
  have hB := block_lt h.blk
  clear h hd
  go_enter Try.func53, Try.ntmps53
  go_wp2_with fail
  refine bodyPost_ret (results_row_tmp rfl _ _ w.heap.size 32 _ (0, 0) _ rfl (get_alloc (alloc_new w (.cells #[.slice none 0 0, .slice none 0 0] 32))) Try.underlying32 rfl Try.info32) rfl ?_
  exact ⟨rfl, (alloc_kept0 _ _).alloc _⟩
set_option maxRecDepth 100000 in
set_option maxHeartbeats 4000000 in
theorem rSlots_live (base B : Nat) (d : RK) (w : World) (h : IsR base w B d) (hd : d.dead = false) (ok : d.ab.Ok) :
    Calls Try.prog 53 #[.pointer (some ⟨B, 0, none⟩)] w fun x w' => ∃ a0 n0 c0 a1 n1 c1, x = .returned (.tuple #[.agg #[.slice a0 n0 c0, .slice a1 n1 c1], .int .i64 (d.cur : Int)]) ∧ SlL w w' (d.ab.now 0) (d.ab.now 1) a0 n0 c0 a1 n1 c1 := by
  obtain ⟨W, hW⟩ : ∃ W, W = (w.alloc (.cells #[.slice none 0 0, .slice none 0 0] 32)).alloc (.cells #[.slice none 0 0, .slice none 0 0] 32) := ⟨_, rfl⟩
  have EW : Hid (W = (w.alloc (.cells #[.slice none 0 0, .slice none 0 0] 32)).alloc (.cells #[.slice none 0 0, .slice none 0 0] 32)) := hW
  have K : Kept (fun _ => False) w W := by rw [hW]; exact (alloc_kept0 _ _).alloc _
  have hB := block_lt h.blk
  have hb0 : W.heap[w.heap.size]? = some (.cells #[.slice none 0 0, .slice none 0 0] 32 (0, 0)) := by rw [hW]; exact get_alloc (alloc_new _ _)
  have hb1 : W.heap[w.heap.size + 1]? = some (.cells #[.slice none 0 0, .slice none 0 0] 32 (0, 0)) := by rw [hW]; exact alloc_new2 _ _ _ _
  have X : Hid (IsR base W B d ∧ d.ab.Ok ∧ Kept (fun _ => False) w W ∧ W.heap[w.heap.size]? = some (.cells #[.slice none 0 0, .slice none 0 0] 32 (0, 0)) ∧ W.heap[w.heap.size + 1]? = some (.cells #[.slice none 0 0, .slice none 0 0] 32 (0, 0))) := ⟨h.kept0 K, ok, K, hb0, hb1⟩
  have c6 : W.cell? ⟨B, 8, none⟩ = some (.bool false) := by rw [← hd]; exact (h.kept0 K).cell 8 rfl
  have UL : Hid (∀ k, d.Uses B k → k < w.heap.size) := fun k hk => h.lt hk
  have nb1 : ¬ B = w.heap.size := by omega
  have nb2 : ¬ w.heap.size = B := by omega
  have nb3 : ¬ B = w.heap.size + 1 := by omega
  have nb4 : ¬ w.heap.size + 1 = B := by omega
  clear h hd ok hW K hb0 hb1
  go_enter Try.func53, Try.ntmps53
  go_upto_region 2 with fail
  rw [← EW.out]
  go_wp2_with fail
  refine (rnow_0 base B d.s0 W X.out.1.z0 (X.out.1.cell 0 rfl) (X.out.1.cell 2 rfl) X.out.2.1.w0).mono ?_
  rintro x w1 ⟨a1, n1, k1, rfl, o1, K1⟩
  have X1 : Hid (IsR base w1 B d ∧ w1.ownsRow W.heap.size 5 1 (.slice a1 n1 k1) n1 (cellsOf (d.ab.now 0)) ∧ Kept (fun _ => False) W w1 ∧ w1.heap[w.heap.size]? = some (.cells #[.slice none 0 0, .slice none 0 0] 32 (0, 0)) ∧ w1.heap[w.heap.size + 1]? = some (.cells #[.slice none 0 0, .slice none 0 0] 32 (0, 0))) := ⟨X.out.1.kept0 K1, o1, K1, K1.get X.out.2.2.2.1 (fun z => z), K1.get X.out.2.2.2.2 (fun z => z)⟩
  have i0 : w1.cell? ⟨w.heap.size + 1, 0, none⟩ = some (.slice none 0 0) := cell_blk X1.out.2.2.2.2 0 rfl
  have i1 : w1.frozen? ⟨w.heap.size + 1, 0, none⟩ = false := soft_blk X1.out.2.2.2.2 0
  obtain ⟨W1, hW1⟩ : ∃ W1, W1 = w1.setCell ⟨w.heap.size + 1, 0, none⟩ (.slice a1 n1 k1) := ⟨_, rfl⟩
  have E1 : Hid (W1 = w1.setCell ⟨w.heap.size + 1, 0, none⟩ (.slice a1 n1 k1)) := hW1
  have KS : Kept (fun k => k = w.heap.size + 1) w1 W1 := by rw [hW1]; exact (Kept.refl (fun k => k = w.heap.size + 1) w1).setCell (p := ⟨w.heap.size + 1, 0, none⟩) (fun _ => rfl) _
  have Y1 : Hid (IsR base W1 B d ∧ W1.ownsRow W.heap.size 5 1 (.slice a1 n1 k1) n1 (cellsOf (d.ab.now 0)) ∧ Kept (fun _ => False) w W1 ∧ W1.heap[w.heap.size]? = some (.cells #[.slice none 0 0, .slice none 0 0] 32 (0, 0)) ∧ W1.heap[w.heap.size + 1]? = some (.cells #[.slice a1 n1 k1, .slice none 0 0] 32 (0, 0)) ∧ w1.heap.size ≤ W1.heap.size) := by
    have hx : w.heap.size + 1 < W.heap.size := block_lt X.out.2.2.2.2
    have bl := UL.out
    refine ⟨X1.out.1.off KS (fun k hk z => by have z : k = w.heap.size + 1 := z; have := bl k hk; omega), KS.owns X1.out.2.1 (fun k hk z => by have z : k = w.heap.size + 1 := z; have := (own_lt X1.out.2.1 k (by rw [← hk]; exact (blockOf_own ..).symm)).1; omega), (X.out.2.2.1.trans X1.out.2.2.1 (fun _ _ z => z)).trans KS (fun k hk z => by have z : k = w.heap.size + 1 := z; omega), KS.get X1.out.2.2.2.1 (fun z => by have z : w.heap.size = w.heap.size + 1 := z; omega), by rw [hW1]; exact set_heap X1.out.2.2.2.2 0 _, KS.size⟩
  clear hW1 KS o1 K1
  go_wp2_with fail
  rw [← E1.out]
  refine (rnow_1 base B d.s1 W1 Y1.out.1.z1 (Y1.out.1.cell 1 rfl) (Y1.out.1.cell 3 rfl) X.out.2.1.w1).mono ?_
  rintro x w2 ⟨a2, n2, k2, rfl, o2, K2⟩
  have b20 : w2.heap[w.heap.size + 1]? = some (.cells #[.slice a1 n1 k1, .slice none 0 0] 32 (0, 0)) := K2.get Y1.out.2.2.2.2.1 (fun z => z)
  have j0 : w2.cell? ⟨w.heap.size + 1, 1, none⟩ = some (.slice none 0 0) := cell_blk b20 1 rfl
  have j1 : w2.frozen? ⟨w.heap.size + 1, 1, none⟩ = false := soft_blk b20 1
  obtain ⟨W2, hW2⟩ : ∃ W2, W2 = w2.setCell ⟨w.heap.size + 1, 1, none⟩ (.slice a2 n2 k2) := ⟨_, rfl⟩
  have E2 : Hid (W2 = w2.setCell ⟨w.heap.size + 1, 1, none⟩ (.slice a2 n2 k2)) := hW2
  have KS : Kept (fun k => k = w.heap.size + 1) w2 W2 := by rw [hW2]; exact (Kept.refl (fun k => k = w.heap.size + 1) w2).setCell (p := ⟨w.heap.size + 1, 1, none⟩) (fun _ => rfl) _
  have Y2 : Hid (IsR base W2 B d ∧ W2.ownsRow W.heap.size 5 1 (.slice a1 n1 k1) n1 (cellsOf (d.ab.now 0)) ∧ W2.ownsRow W1.heap.size 5 1 (.slice a2 n2 k2) n2 (cellsOf (d.ab.now 1)) ∧ Kept (fun _ => False) w W2 ∧ W2.heap[w.heap.size]? = some (.cells #[.slice none 0 0, .slice none 0 0] 32 (0, 0)) ∧ W2.heap[w.heap.size + 1]? = some (.cells #[.slice a1 n1 k1, .slice a2 n2 k2] 32 (0, 0))) := by
    have hx : w.heap.size + 1 < W.heap.size := block_lt X.out.2.2.2.2
    have hx1 := X1.out.2.2.1.size
    have hx2 := Y1.out.2.2.2.2.2
    refine ⟨(Y1.out.1.kept0 K2).off KS (fun k hk z => by have z : k = w.heap.size + 1 := z; have := UL.out k hk; omega), KS.owns (K2.owns Y1.out.2.1 (fun _ _ z => z)) (fun k hk z => by have z : k = w.heap.size + 1 := z; have := (own_lt Y1.out.2.1 k (by rw [← hk]; exact (blockOf_own ..).symm)).1; omega), KS.owns o2 (fun k hk z => by have z : k = w.heap.size + 1 := z; have := (own_lt o2 k (by rw [← hk]; exact (blockOf_own ..).symm)).1; omega), (Y1.out.2.2.1.trans K2 (fun _ _ z => z)).trans KS (fun k hk z => by have z : k = w.heap.size + 1 := z; omega), KS.get (K2.get Y1.out.2.2.2.1 (fun z => z)) (fun z => by have z : w.heap.size = w.heap.size + 1 := z; omega), by rw [hW2]; exact set_heap b20 1 _⟩
  clear hW2 KS o2 K2 b20 i0 i1
  go_upto_region 6 with fail
  rw [← E2.out]
  have y0 : W2.cell? ⟨w.heap.size + 1, 0, none⟩ = some (.slice a1 n1 k1) := cell_blk Y2.out.2.2.2.2.2 0 rfl
  have y1 : W2.cell? ⟨w.heap.size + 1, 1, none⟩ = some (.slice a2 n2 k2) := cell_blk Y2.out.2.2.2.2.2 1 rfl
  have y4 : W2.cell? ⟨B, 4, none⟩ = some (.int .i64 (d.cur : Int)) := Y2.out.1.cell 4 rfl
  have u0 : W2.cell? ⟨w.heap.size, 0, none⟩ = some (.slice none 0 0) := cell_blk Y2.out.2.2.2.2.1 0 rfl
  have u1 : W2.cell? ⟨w.heap.size, 1, none⟩ = some (.slice none 0 0) := cell_blk Y2.out.2.2.2.2.1 1 rfl
  have v0 : W2.frozen? ⟨w.heap.size, 0, none⟩ = false := soft_blk Y2.out.2.2.2.2.1 0
  have v1 : W2.frozen? ⟨w.heap.size, 1, none⟩ = false := soft_blk Y2.out.2.2.2.2.1 1
  have q1 : ¬ w.heap.size = w.heap.size + 1 := by omega
  have q2 : ¬ w.heap.size + 1 = w.heap.size := by omega
  go_region_held3 (fun w' => w'.cell? ⟨B, 4, none⟩ = some (.int .i64 (d.cur : Int)) ∧ w'.cell? ⟨w.heap.size + 1, 0, none⟩ = some (.slice a1 n1 k1) ∧ w'.cell? ⟨w.heap.size + 1, 1, none⟩ = some (.slice a2 n2 k2)) (first | go_keep) (first | fail)
  go_wp2_with fail
  have RB : ((W2.setCell ⟨w.heap.size, 0, none⟩ (.slice a1 n1 k1)).setCell ⟨w.heap.size, 1, none⟩ (.slice a2 n2 k2)).drew.heap[w.heap.size]? = some (.cells #[.slice a1 n1 k1, .slice a2 n2 k2] 32 (0, 0)) := get_drew (set_heap (set_heap Y2.out.2.2.2.2.1 0 _) 1 _)
  (try simp only [Exit.inBlock, Exit.then])
  refine bodyPost_ret (results_row_tmp rfl _ _ w.heap.size 32 _ (0, 0) _ rfl RB Try.underlying32 rfl Try.info32) rfl ?_
  refine ⟨a1, n1, k1, a2, n2, k2, rfl, ?_⟩
  have KS : Kept (fun k => k = w.heap.size) W2 ((W2.setCell ⟨w.heap.size, 0, none⟩ (.slice a1 n1 k1)).setCell ⟨w.heap.size, 1, none⟩ (.slice a2 n2 k2)).drew := (((Kept.refl (fun k => k = w.heap.size) W2).setCell (p := ⟨w.heap.size, 0, none⟩) (fun _ => rfl) _).setCell (p := ⟨w.heap.size, 1, none⟩) (fun _ => rfl) _).drew
  have hx : w.heap.size + 1 < W.heap.size := block_lt X.out.2.2.2.2
  have hx1 := X1.out.2.2.1.size
  have hx2 := Y1.out.2.2.2.2.2
  have l1 : ∀ k, blockOf a1 = some k → W.heap.size ≤ k ∧ k < w1.heap.size := fun k hk => own_lt X1.out.2.1 k hk
  have l2 : ∀ k, blockOf a2 = some k → W1.heap.size ≤ k := fun k hk => (own_lt Y2.out.2.2.1 k hk).1
  have O1 := KS.owns Y2.out.2.1 (fun k hk z => by have z : k = w.heap.size := z; have := l1 k (by rw [← hk]; exact (blockOf_own ..).symm); omega)
  have O2 := KS.owns Y2.out.2.2.1 (fun k hk z => by have z : k = w.heap.size := z; have := l2 k (by rw [← hk]; exact (blockOf_own ..).symm); omega)
  refine ⟨owns_mono O1 (by omega), owns_mono O2 (by omega), fun k h1 h2 => ?_, Y2.out.2.2.2.1.trans KS (fun k hk z => by have z : k = w.heap.size := z; omega)⟩
  have := l1 k h1
  have := l2 k h2
  omega
theorem rSlots (base B : Nat) (d : RK) (w : World) (h : IsR base w B d) (ok : d.ab.Ok) :
    Calls Try.prog 53 #[.pointer (some ⟨B, 0, none⟩)] w fun x w' => ∃ a0 n0 c0 a1 n1 c1, x = .returned (.tuple #[.agg #[.slice a0 n0 c0, .slice a1 n1 c1], .int .i64 (toldC d.ab)]) ∧ SlL w w' (toldL d.ab 0) (toldL d.ab 1) a0 n0 c0 a1 n1 c1 := by
  cases hd : d.dead with
  | true =>
    have e0 : toldL d.ab 0 = [] := by unfold toldL; rw [if_pos (by exact hd)]
    have e1 : toldL d.ab 1 = [] := by unfold toldL; rw [if_pos (by exact hd)]
    have e2 : toldC d.ab = 0 := by unfold toldC; rw [if_pos (by exact hd)]
    rw [e0, e1, e2]
    refine (rSlots_dead base B d w h hd).mono ?_
    rintro x w' ⟨rfl, K⟩
    exact ⟨none, 0, 0, none, 0, 0, rfl, World.ownsRow_nil _ _ _ _, World.ownsRow_nil _ _ _ _, fun k hk => by simp [blockOf] at hk, K⟩
  | false =>
    have nd : ¬ d.ab.dead = true := by show ¬ d.dead = true; rw [hd]; decide
    have e0 : toldL d.ab 0 = d.ab.now 0 := by unfold toldL; rw [if_neg nd]
    have e1 : toldL d.ab 1 = d.ab.now 1 := by unfold toldL; rw [if_neg nd]
    have e2 : toldC d.ab = (d.cur : Int) := by unfold toldC; rw [if_neg nd]; rfl
    rw [e0, e1, e2]
    exact rSlots_live base B d w h hd ok
theorem gSlots (base B : Nat) (d : DK) (w : World) (h : IsD base w B d) (ok : d.ab.Ok) :
    Calls Try.prog 26 #[.pointer (some ⟨B, 0, none⟩)] w fun x w' => ∃ a0 n0 c0 a1 n1 c1, x = .returned (.tuple #[.agg #[.slice a0 n0 c0, .slice a1 n1 c1], .int .i64 (toldC d.ab)]) ∧ SlL w w' (toldL d.ab 0) (toldL d.ab 1) a0 n0 c0 a1 n1 c1 := by
  cases hd : d.dead with
  | true =>
    have e0 : toldL d.ab 0 = [] := by unfold toldL; rw [if_pos (by exact hd)]
    have e1 : toldL d.ab 1 = [] := by unfold toldL; rw [if_pos (by exact hd)]
    have e2 : toldC d.ab = 0 := by unfold toldC; rw [if_pos (by exact hd)]
    rw [e0, e1, e2]
    refine (dSlots_dead base B d w h hd).mono ?_
    rintro x w' ⟨rfl, K⟩
    exact ⟨none, 0, 0, none, 0, 0, rfl, World.ownsRow_nil _ _ _ _, World.ownsRow_nil _ _ _ _, fun k hk => by simp [blockOf] at hk, K⟩
  | false =>
    have nd : ¬ d.ab.dead = true := by show ¬ d.dead = true; rw [hd]; decide
    have e0 : toldL d.ab 0 = d.ab.now 0 := by unfold toldL; rw [if_neg nd]
    have e1 : toldL d.ab 1 = d.ab.now 1 := by unfold toldL; rw [if_neg nd]
    have e2 : toldC d.ab = (d.cur : Int) := by unfold toldC; rw [if_neg nd]; rfl
    rw [e0, e1, e2]
    refine (dSlots base B d w h hd ok).mono ?_
    rintro x w' ⟨a0, n0, c0, a1, n1, c1, rfl, s⟩
    exact ⟨a0, n0, c0, a1, n1, c1, rfl, s.o0, s.o1, s.ne, s.kept⟩
end Go.Proofs.Ytbnnmelkbjkkjaa
