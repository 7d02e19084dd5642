import Derived.Test.YtbnnmelkbjkkjaaCrashK
import Derived.Test.YtbnnmelkbjkkjaaAllDJ
namespace Go.Proofs.Ytbnnmelkbjkkjaa
open Go.RowKit

/-- Two wide lists, and a block that names them. -/
structure L4 (w wc : World) (B : Nat) (pa : Option Addr) (pn pc : Nat) (L1 : List Pr) (x : Pr) (L2 : List Pr) (o : Opv) (V U X : Nat) (pA : Option Addr) (n0 qA : Nat) (l0 : List Nat) (pB : Option Addr) (n1 qB : Nat) (l1 : List Nat) : Prop where
  on : ON w wc pa pn pc L1 x L2 o V U (fun k => k = X ∨ blockOf pA = some k ∨ blockOf pB = some k)
  rA : wc.ownsRow B 5 1 (.slice pA (n0 + 2) qA) (n0 + 2) (cellsOf (l0 ++ [193, 194]))
  rB : wc.ownsRow B 5 1 (.slice pB (n1 + 2) qB) (n1 + 2) (cellsOf (l1 ++ [193, 194]))
  xb : wc.heap[X]? = some (.cells #[.slice pA n0 qA, .slice pB n1 qB] 32 (0, 0))
  ne : ∀ k, blockOf pA = some k → blockOf pB ≠ some k
  low : B ≤ X
  far : ∀ k, (blockOf pA = some k ∨ blockOf pB = some k) → k ≠ X
theorem own_down {w : World} {B B' : Nat} {e : TypeId} {s : Nat} {v : Value} {n : Nat} {xs : List Value} (h : w.ownsRow B' e s v n xs) (hb : B ≤ B') : w.ownsRow B e s v n xs := by
  obtain ⟨h1, h2⟩ := h
  refine ⟨h1, ?_⟩
  rcases h2 with h2 | ⟨g, cap, cur, q1, q2, q3⟩
  · exact .inl h2
  · exact .inr ⟨g, cap, cur, q1, Nat.le_trans hb q2, q3⟩
theorem L4.put {w W7 V3 : World} {pa : Option Addr} {pn pc : Nat} {L1 : List Pr} {x : Pr} {L2 : List Pr} {o : Opv} {V U X : Nat} {pA : Option Addr} {n0 qA : Nat} {l0 : List Nat} {pB : Option Addr} {n1 qB : Nat} {l1 : List Nat} (h : ON w W7 pa pn pc L1 x L2 o V U (fun _ => False)) (K : Kept (fun _ => False) W7 V3) (rA : V3.ownsRow W7.heap.size 5 1 (.slice pA (n0 + 2) qA) (n0 + 2) (cellsOf (l0 ++ [193, 194]))) (rB : V3.ownsRow W7.heap.size 5 1 (.slice pB (n1 + 2) qB) (n1 + 2) (cellsOf (l1 ++ [193, 194]))) (xb : V3.heap[X]? = some (.cells #[.slice none 0 0, .slice none 0 0] 32 (0, 0))) (ne : ∀ k, blockOf pA = some k → blockOf pB ≠ some k) (low : W7.heap.size ≤ X) (far : ∀ k, (blockOf pA = some k ∨ blockOf pB = some k) → k ≠ X) : L4 w ((V3.setCell ⟨X, 0, none⟩ (.slice pA n0 qA)).setCell ⟨X, 1, none⟩ (.slice pB n1 qB)) W7.heap.size pa pn pc L1 x L2 o V U X pA n0 qA l0 pB n1 qB l1 := by
  have hlt := block_lt xb
  have m := h.more K (S' := fun k => k = X ∨ blockOf pA = some k ∨ blockOf pB = some k) (fun k hk => .inr (by
    rcases hk with z | z | z
    · omega
    · exact own_lt rA k z
    · exact own_lt rB k z))
  have K3 : Kept (fun k => k = X) V3 ((V3.setCell ⟨X, 0, none⟩ (.slice pA n0 qA)).setCell ⟨X, 1, none⟩ (.slice pB n1 qB)) := ((Kept.refl (fun k => k = X) V3).setCell (p := ⟨X, 0, none⟩) (fun _ => rfl) _).setCell (p := ⟨X, 1, none⟩) (fun _ => rfl) _
  have h3 := block_lt h.o3
  have h7 := block_lt h.x7
  refine ⟨⟨m.al.wrote K3 (fun k hk => ⟨by have hk : k = X := hk; have := h.al.kept.size; omega, fun y hy => (m.al.far k (.inl (.inl hk))).2.2 y hy⟩), K3.owns m.row (fun k hk z => ?_), K3.get m.o3 (by omega), K3.get m.x7 (by omega), m.rd⟩, K3.owns rA (fun k hk z => far k (.inl (by rw [← hk]; exact (blockOf_own ..).symm)) z), K3.owns rB (fun k hk z => far k (.inr (by rw [← hk]; exact (blockOf_own ..).symm)) z), set_heap (set_heap xb 0 _) 1 _, ne, low, far⟩
  have z : k = X := z
  have h2 : k < W7.heap.size := (h.al.far k (.inr (.inl (by rw [← hk]; exact (blockOf_own ..).symm)))).1
  omega
theorem L4.new {w W7 V3 : World} {pa : Option Addr} {pn pc : Nat} {L1 : List Pr} {x : Pr} {L2 : List Pr} {o : Opv} {V U : Nat} {pA : Option Addr} {n0 qA : Nat} {l0 : List Nat} {pB : Option Addr} {n1 qB : Nat} {l1 : List Nat} (h : ON w W7 pa pn pc L1 x L2 o V U (fun _ => False)) (K : Kept (fun _ => False) W7 V3) (rA : V3.ownsRow W7.heap.size 5 1 (.slice pA (n0 + 2) qA) (n0 + 2) (cellsOf (l0 ++ [193, 194]))) (rB : V3.ownsRow W7.heap.size 5 1 (.slice pB (n1 + 2) qB) (n1 + 2) (cellsOf (l1 ++ [193, 194]))) (ne : ∀ k, blockOf pA = some k → blockOf pB ≠ some k) : L4 w (V3.alloc (.cells #[.slice pA n0 qA, .slice pB n1 qB] 32)) W7.heap.size pa pn pc L1 x L2 o V U V3.heap.size pA n0 qA l0 pB n1 qB l1 := by
  have K3 := alloc_kept0 V3 (.cells #[.slice pA n0 qA, .slice pB n1 qB] 32)
  have sz := alloc_size V3 (.cells #[.slice pA n0 qA, .slice pB n1 qB] 32)
  have hk := K.size
  refine ⟨h.more (K.trans K3 (fun _ _ z => z)) (fun k hk => .inr ?_), K3.owns rA (fun _ _ z => z), K3.owns rB (fun _ _ z => z), alloc_new _ _, ne, hk, fun k hk z => ?_⟩
  · rcases hk with z | z | z
    · omega
    · have := own_lt rA k z; omega
    · have := own_lt rB k z; omega
  · rcases hk with q | q
    · have := (own_lt rA k q).2; omega
    · have := (own_lt rB k q).2; omega
end Go.Proofs.Ytbnnmelkbjkkjaa

namespace Go.Proofs.Ytbnnmelkbjkkjaa
open Go.RowKit

set_option maxRecDepth 100000 in
theorem nil_look (i : Int) (w : World) : Calls Try.prog 36 #[.pointer none, .int .i64 i] w fun x w' => x = .returned (.int .i64 0) ∧ w' = w := by
  go_enter Try.func36, Try.ntmps36
  go_wp2_with fail
  go_ret
  exact ⟨rfl, rfl⟩
set_option maxRecDepth 100000 in
theorem nil_act (f : Value) (w : World) : Calls Try.prog 37 #[.pointer none, f] w fun x w' => x = .returned (.int .i64 0) ∧ w' = w := by
  go_enter Try.func37, Try.ntmps37
  go_wp2_with fail
  go_ret
  exact ⟨rfl, rfl⟩
set_option maxRecDepth 100000 in
theorem nil_current (w : World) : Calls Try.prog 18 #[.pointer none] w fun x w' => x = .returned (.int .i64 0) ∧ w' = w := by
  go_enter Try.func18, Try.ntmps18
  go_wp2_with fail
  go_ret
  exact ⟨rfl, rfl⟩
set_option maxRecDepth 100000 in
theorem nil_acts (w : World) : Calls Try.prog 24 #[.pointer none] w fun x w' => x = .returned (.int .i64 0) ∧ w' = w := by
  go_enter Try.func24, Try.ntmps24
  go_wp2_with fail
  go_ret
  exact ⟨rfl, rfl⟩
set_option maxRecDepth 100000 in
theorem nil_pending (w : World) : Calls Try.prog 13 #[.pointer none] w fun x w' => x = .returned (.int .i64 0) ∧ w' = w := by
  go_enter Try.func13, Try.ntmps13
  go_wp2_with fail
  go_ret
  exact ⟨rfl, rfl⟩
set_option maxRecDepth 100000 in
theorem nil_dead (w : World) : Calls Try.prog 20 #[.pointer none] w fun x w' => x = .returned (.bool false) ∧ w' = w := by
  go_enter Try.func20, Try.ntmps20
  go_wp2_with fail
  go_ret
  exact ⟨rfl, rfl⟩
set_option maxRecDepth 100000 in
theorem nil_crash (w : World) : Calls Try.prog 14 #[.pointer none, .slice none 0 0] w fun x w' => x = .returned (.pointer none) ∧ w' = w := by
  go_enter Try.func14, Try.ntmps14
  go_wp2_with fail
  go_ret
  exact ⟨rfl, rfl⟩
set_option maxRecDepth 100000 in
theorem nil_stop (w : World) : Calls Try.prog 22 #[.pointer none, .int .i64 1, .bool true] w fun x w' => x = .returned (.int .i64 0) ∧ w' = w := by
  go_enter Try.func22, Try.ntmps22
  go_wp2_with fail
  go_ret
  exact ⟨rfl, rfl⟩
set_option maxRecDepth 100000 in
theorem nil_read (i : Int) (w : World) : Calls Try.prog 15 #[.pointer none, .int .i64 i] w fun x w' => x = .returned (.tuple #[.slice none 0 0, .int .i64 0]) ∧ w' = w := by
  go_enter Try.func15, Try.ntmps15
  go_wp2_with fail
  refine (nil_look i w).mono ?_
  rintro x w1 ⟨rfl, rfl⟩
  go_wp2_with fail
  go_ret2
  exact ⟨rfl, rfl⟩
set_option maxRecDepth 100000 in
theorem nil_slots (w : World) : Calls Try.prog 26 #[.pointer none] w fun x w' => x = .returned (.tuple #[.agg #[.slice none 0 0, .slice none 0 0], .int .i64 0]) ∧ Kept (fun _ => False) w w' := by
  go_enter Try.func26, Try.ntmps26
  go_wp2_with fail
  refine bodyPost_ret (results_row_tmp rfl _ _ w.heap.size 32 _ (0, 0) _ rfl (alloc_new w (.cells #[.slice none 0 0, .slice none 0 0] 32)) Try.underlying32 rfl Try.info32) rfl ?_
  exact ⟨rfl, alloc_kept0 _ _⟩
set_option maxRecDepth 100000 in
theorem nil_append (i : Int) (a : Option Addr) (n c : Nat) (w : World) : Calls Try.prog 12 #[.pointer none, .int .i64 i, .slice a n c] w fun x w' => x = .returned (.int .i64 0) ∧ Kept (fun _ => False) w w' := by
  obtain ⟨W, hW⟩ : ∃ W, W = (((w.alloc (.cells #[.pointer none] 27)).alloc (.cells #[.int .i64 i] 3)).alloc (.cells #[.slice a n c] 22)) := ⟨_, rfl⟩
  have EW : Hid (W = (((w.alloc (.cells #[.pointer none] 27)).alloc (.cells #[.int .i64 i] 3)).alloc (.cells #[.slice a n c] 22))) := hW
  have KW : Hid (Kept (fun _ => False) w W) := by show Kept _ w W; rw [hW]; exact (((Kept.refl _ w).alloc _).alloc _).alloc _
  have x1 : W.cell? ⟨w.heap.size, 0, none⟩ = some (.pointer none) := by rw [hW]; exact (cells_at (get_alloc (get_alloc (alloc_new _ _))))
  have x2 : W.cell? ⟨w.heap.size + 1, 0, none⟩ = some (.int .i64 i) := by rw [hW]; exact (cells_at (get_alloc (alloc_new2 _ _ _ _)))
  clear hW
  go_enter Try.func12, Try.ntmps12
  go_upto_region 1 with fail
  rw [← EW.out]
  go_wp2_with fail
  refine (nil_look i _).mono ?_
  rintro x w1 ⟨rfl, rfl⟩
  go_wp2_with fail
  refine (nil_act _ _).mono ?_
  rintro x w2 ⟨rfl, rfl⟩
  go_wp2_with fail
  go_ret
  exact ⟨rfl, KW.out⟩
set_option maxRecDepth 100000 in
theorem nil_wipe (i : Int) (w : World) : Calls Try.prog 29 #[.pointer none, .int .i64 i] w fun x w' => x = .returned (.int .i64 0) ∧ Kept (fun _ => False) w w' := by
  obtain ⟨W, hW⟩ : ∃ W, W = ((w.alloc (.cells #[.pointer none] 27)).alloc (.cells #[.int .i64 i] 3)) := ⟨_, rfl⟩
  have EW : Hid (W = ((w.alloc (.cells #[.pointer none] 27)).alloc (.cells #[.int .i64 i] 3))) := hW
  have KW : Hid (Kept (fun _ => False) w W) := by show Kept _ w W; rw [hW]; exact ((Kept.refl _ w).alloc _).alloc _
  have x1 : W.cell? ⟨w.heap.size, 0, none⟩ = some (.pointer none) := by rw [hW]; exact ((cells_at (get_alloc (alloc_new _ _))))
  have x2 : W.cell? ⟨w.heap.size + 1, 0, none⟩ = some (.int .i64 i) := by rw [hW]; exact (cells_at (alloc_new2 _ _ _ _))
  clear hW
  go_enter Try.func29, Try.ntmps29
  go_upto_region 1 with fail
  rw [← EW.out]
  go_wp2_with fail
  refine (nil_look i _).mono ?_
  rintro x w1 ⟨rfl, rfl⟩
  go_wp2_with fail
  go_quiet (fail)
  go_wp2_with fail
  refine (nil_act _ _).mono ?_
  rintro x w2 ⟨rfl, rfl⟩
  go_wp2_with fail
  go_ret
  exact ⟨rfl, KW.out.drewN nq⟩
set_option maxRecDepth 100000 in
theorem nil_sync (i : Int) (w : World) : Calls Try.prog 19 #[.pointer none, .int .i64 i] w fun x w' => x = .returned (.int .i64 0) ∧ Kept (fun _ => False) w w' := by
  obtain ⟨W, hW⟩ : ∃ W, W = ((w.alloc (.cells #[.pointer none] 27)).alloc (.cells #[.int .i64 i] 3)) := ⟨_, rfl⟩
  have EW : Hid (W = ((w.alloc (.cells #[.pointer none] 27)).alloc (.cells #[.int .i64 i] 3))) := hW
  have KW : Hid (Kept (fun _ => False) w W) := by show Kept _ w W; rw [hW]; exact ((Kept.refl _ w).alloc _).alloc _
  have x1 : W.cell? ⟨w.heap.size, 0, none⟩ = some (.pointer none) := by rw [hW]; exact ((cells_at (get_alloc (alloc_new _ _))))
  have x2 : W.cell? ⟨w.heap.size + 1, 0, none⟩ = some (.int .i64 i) := by rw [hW]; exact (cells_at (alloc_new2 _ _ _ _))
  clear hW
  go_enter Try.func19, Try.ntmps19
  go_upto_region 1 with fail
  rw [← EW.out]
  go_wp2_with fail
  refine (nil_look i _).mono ?_
  rintro x w1 ⟨rfl, rfl⟩
  go_wp2_with fail
  refine (nil_act _ _).mono ?_
  rintro x w2 ⟨rfl, rfl⟩
  go_wp2_with fail
  go_ret
  exact ⟨rfl, KW.out⟩
set_option maxRecDepth 100000 in
theorem nil_switch (i : Int) (w : World) : Calls Try.prog 28 #[.pointer none, .int .i64 i] w fun x w' => x = .returned (.int .i64 0) ∧ Kept (fun _ => False) w w' := by
  obtain ⟨W, hW⟩ : ∃ W, W = ((w.alloc (.cells #[.pointer none] 27)).alloc (.cells #[.int .i64 i] 3)) := ⟨_, rfl⟩
  have EW : Hid (W = ((w.alloc (.cells #[.pointer none] 27)).alloc (.cells #[.int .i64 i] 3))) := hW
  have KW : Hid (Kept (fun _ => False) w W) := by show Kept _ w W; rw [hW]; exact ((Kept.refl _ w).alloc _).alloc _
  have x1 : W.cell? ⟨w.heap.size, 0, none⟩ = some (.pointer none) := by rw [hW]; exact ((cells_at (get_alloc (alloc_new _ _))))
  have x2 : W.cell? ⟨w.heap.size + 1, 0, none⟩ = some (.int .i64 i) := by rw [hW]; exact (cells_at (alloc_new2 _ _ _ _))
  clear hW
  go_enter Try.func28, Try.ntmps28
  go_upto_region 1 with fail
  rw [← EW.out]
  go_wp2_with fail
  refine (nil_look i _).mono ?_
  rintro x w1 ⟨rfl, rfl⟩
  go_wp2_with fail
  refine (nil_act _ _).mono ?_
  rintro x w2 ⟨rfl, rfl⟩
  go_wp2_with fail
  go_ret
  exact ⟨rfl, KW.out⟩
set_option maxRecDepth 100000 in
set_option maxHeartbeats 1000000 in
/-- none (30): a disk that is none. -/
theorem noneOK (w : World) : Calls Try.prog 30 #[] w fun x w' => x = .returned (.bool true) ∧ Kept (fun _ => False) w w' := by
  go_enter Try.func30, Try.ntmps30
  go_wp2_with fail
  refine (nil_read 0 w).mono ?_
  rintro x w1 ⟨rfl, rfl⟩
  go_wp2_with fail
  refine (nil_slots w1).mono ?_
  rintro x w2 ⟨rfl, K2⟩
  obtain ⟨W, hW⟩ : ∃ W, W = w2.alloc (.cells #[.slice none 0 0, .slice none 0 0] 32) := ⟨_, rfl⟩
  have EW : Hid (W = w2.alloc (.cells #[.slice none 0 0, .slice none 0 0] 32)) := hW
  have KW : Hid (Kept (fun _ => False) w1 W) := by show Kept _ w1 W; rw [hW]; exact K2.alloc _
  have hb : W.heap[w2.heap.size]? = some (.cells #[.slice none 0 0, .slice none 0 0] 32 (0, 0)) := by rw [hW]; exact alloc_new _ _
  have y0 : W.cell? ⟨w2.heap.size, 0, none⟩ = some (.slice none 0 0) := cell_blk hb 0 rfl
  have y1 : W.cell? ⟨w2.heap.size, 1, none⟩ = some (.slice none 0 0) := cell_blk hb 1 rfl
  clear hW hb K2
  go_upto_region 4 with fail
  rw [← EW.out]
  go_wp2_with fail
  refine (nil_current W).mono ?_
  rintro x wz ⟨rfl, ez⟩
  rw [ez]
  clear ez wz
  go_wp2_with fail
  refine (nil_acts W).mono ?_
  rintro x wz ⟨rfl, ez⟩
  rw [ez]
  clear ez wz
  go_wp2_with fail
  refine (nil_pending W).mono ?_
  rintro x wz ⟨rfl, ez⟩
  rw [ez]
  clear ez wz
  go_wp2_with fail
  refine (nil_dead W).mono ?_
  rintro x wz ⟨rfl, ez⟩
  rw [ez]
  clear ez wz
  go_wp2_with fail
  refine (nil_crash W).mono ?_
  rintro x wz ⟨rfl, ez⟩
  rw [ez]
  clear ez wz
  go_wp2_with fail
  refine (nil_append 0 _ _ _ _).mono ?_
  rintro x w3 ⟨rfl, K3⟩
  have X3 : Hid (Kept (fun _ => False) w1 w3) := ((KW.out).alloc _).trans K3 (fun _ _ z => z)
  clear K3
  go_wp2_with fail
  refine (nil_wipe 9 w3).mono ?_
  rintro x w4 ⟨rfl, K4⟩
  have X4 : Hid (Kept (fun _ => False) w1 w4) := X3.out.trans K4 (fun _ _ z => z)
  clear K4
  go_wp2_with fail
  refine (nil_sync 9 w4).mono ?_
  rintro x w5 ⟨rfl, K5⟩
  have X5 : Hid (Kept (fun _ => False) w1 w5) := X4.out.trans K5 (fun _ _ z => z)
  clear K5
  go_wp2_with fail
  refine (nil_switch 9 w5).mono ?_
  rintro x w6 ⟨rfl, K6⟩
  have X6 : Hid (Kept (fun _ => False) w1 w6) := X5.out.trans K6 (fun _ _ z => z)
  clear K6
  go_wp2_with fail
  refine (nil_stop w6).mono ?_
  rintro x wz ⟨rfl, ez⟩
  rw [ez]
  clear ez wz
  go_wp2_with fail
  go_ret
  exact ⟨by first | rfl | simp, X6.out⟩
end Go.Proofs.Ytbnnmelkbjkkjaa
