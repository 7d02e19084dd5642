import Derived.Test.YtbangbobfeflcaaGreatDoorRTa
namespace Go.Proofs.YtbangbobfeflcaaGreatDoor
open Go.RowKit 

/-- Where ended is: the event in its box, what it answers, words in memory. -/
structure En (w W : World) (cs : Array Value) : Prop where
  bx : W.heap[w.heap.size]? = some (.cells cs 39 (0, 0))
  rs : W.heap[w.heap.size + 1]? = some (.cells zEv 39 (0, 0))
  kept : Kept (fun _ => False) w W
theorem En.start (w : World) (cs : Array Value) : En w ((w.alloc (.cells cs 39)).alloc (.cells zEv 39)) cs := ⟨alloc_old _ (alloc_new _ _), by
  have q := alloc_new (w.alloc (.cells cs 39)) (.cells zEv 39)
  rw [alloc_size] at q
  exact q, ((Kept.refl _ _).alloc _).alloc _⟩
theorem En.keep {w W W' : World} {cs : Array Value} (h : En w W cs) (K : Kept (fun _ => False) W W') : En w W' cs := ⟨K.get h.bx (fun z => z), K.get h.rs (fun z => z), h.kept.trans K (fun _ _ z => z)⟩
theorem En.set {w W : World} {cs : Array Value} (h : En w W cs) (i : Nat) (v : Value) : En w (W.setCell ⟨w.heap.size, i, none⟩ v) (cs.setIfInBounds i v) := by
  have K : Kept (fun j => j = w.heap.size) W (W.setCell ⟨w.heap.size, i, none⟩ v) := (Kept.refl (fun j => j = w.heap.size) W).setCell (p := ⟨w.heap.size, i, none⟩) (fun _ => rfl) v
  exact ⟨set_heap h.bx i v, K.get h.rs (by omega), h.kept.trans K (fun j hj z => by have z : j = w.heap.size := z; omega)⟩
theorem ne_list {a b : ByteArray} {l : List UInt8} (h : ¬ a = b) (e : b.toList = l) : (a.toList == l) = false := by
  rw [beq_eq_false_iff_ne, ← e]
  intro z
  rw [Go.ByteArray.toList_eq, Go.ByteArray.toList_eq] at z
  exact h (ba_eq z)
set_option maxRecDepth 100000 in
theorem hEndFull (v1 v2 : Int) (pb : Bool) (kb : ByteArray) (g m c : Nat)  (w : World) (c0 : w.cell? ⟨g, 5, none⟩ = some (.string ⟨#[102, 117, 108, 108]⟩)) (hm : 1 ≤ m) : Calls Tryz.prog 69 #[.agg #[.int .i64 2, .int .i64 v1, .int .i64 v2, .bool pb, .string kb, .slice none 0 0, .int .i64 0, .int .i64 0, .int .i64 0], .slice (some ⟨g, 5, none⟩) m c] w fun o w' => o = .returned (.agg #[.int .i64 2, .int .i64 v1, .int .i64 v2, .bool pb, .string kb, .slice none 0 0, .int .i64 42, .int .i64 0, .int .i64 0]) ∧ Kept (fun _ => False) w w' := by
  have m1 : (0 : Int) < (m : Int) := by omega
  obtain ⟨W0, hW0⟩ : ∃ W0, W0 = (w.alloc (.cells #[.int .i64 2, .int .i64 v1, .int .i64 v2, .bool pb, .string kb, .slice none 0 0, .int .i64 0, .int .i64 0, .int .i64 0] 39)).alloc (.cells #[.int .i64 0, .int .i64 0, .int .i64 0, .bool false, .string ⟨#[]⟩, .slice none 0 0, .int .i64 0, .int .i64 0, .int .i64 0] 39) := ⟨_, rfl⟩
  have G0 : Hid (En w W0 #[.int .i64 2, .int .i64 v1, .int .i64 v2, .bool pb, .string kb, .slice none 0 0, .int .i64 0, .int .i64 0, .int .i64 0]) := by rw [hW0]; exact En.start w _
  have EW : Hid (W0 = (w.alloc (.cells #[.int .i64 2, .int .i64 v1, .int .i64 v2, .bool pb, .string kb, .slice none 0 0, .int .i64 0, .int .i64 0, .int .i64 0] 39)).alloc (.cells #[.int .i64 0, .int .i64 0, .int .i64 0, .bool false, .string ⟨#[]⟩, .slice none 0 0, .int .i64 0, .int .i64 0, .int .i64 0] 39)) := hW0
  clear hW0
  have CW : Hid (∀ V, Kept (fun _ => False) w V → V.cell? ⟨g, 5, none⟩ = some (.string ⟨#[102, 117, 108, 108]⟩)) := fun V K => K.cell c0 (fun z => z)
  have k0 := CW.out _ G0.out.kept
  clear c0
  go_enter Tryz.func69, Tryz.ntmps69
  go_upto_region 1 with fail
  rw [← EW.out]
  clear EW
  have d6 := cell_blk G0.out.bx 6 (v := .int .i64 0) rfl
  have t6 := soft_blk G0.out.bx 6
  have GN : Hid (En w (W0.setCell ⟨w.heap.size, 6, none⟩ (.int .i64 42)) #[.int .i64 2, .int .i64 v1, .int .i64 v2, .bool pb, .string kb, .slice none 0 0, .int .i64 42, .int .i64 0, .int .i64 0]) := (G0.out.set 6 (.int .i64 42))
  have e0 := cell_blk GN.out.bx 0 (v := .int .i64 2) rfl
  have e1 := cell_blk GN.out.bx 1 (v := .int .i64 v1) rfl
  have e2 := cell_blk GN.out.bx 2 (v := .int .i64 v2) rfl
  have e3 := cell_blk GN.out.bx 3 (v := .bool pb) rfl
  have e4 := cell_blk GN.out.bx 4 (v := .string kb) rfl
  have e5 := cell_blk GN.out.bx 5 (v := .slice none 0 0) rfl
  have e6 := cell_blk GN.out.bx 6 (v := .int .i64 42) rfl
  have e7 := cell_blk GN.out.bx 7 (v := .int .i64 0) rfl
  have e8 := cell_blk GN.out.bx 8 (v := .int .i64 0) rfl
  have r0 := cell_blk GN.out.rs 0 (v := .int .i64 0) rfl
  have s0 := soft_blk GN.out.rs 0
  have r1 := cell_blk GN.out.rs 1 (v := .int .i64 0) rfl
  have s1 := soft_blk GN.out.rs 1
  have r2 := cell_blk GN.out.rs 2 (v := .int .i64 0) rfl
  have s2 := soft_blk GN.out.rs 2
  have r3 := cell_blk GN.out.rs 3 (v := .bool false) rfl
  have s3 := soft_blk GN.out.rs 3
  have r4 := cell_blk GN.out.rs 4 (v := .string ⟨#[]⟩) rfl
  have s4 := soft_blk GN.out.rs 4
  have r5 := cell_blk GN.out.rs 5 (v := .slice none 0 0) rfl
  have s5 := soft_blk GN.out.rs 5
  have r6 := cell_blk GN.out.rs 6 (v := .int .i64 0) rfl
  have s6 := soft_blk GN.out.rs 6
  have r7 := cell_blk GN.out.rs 7 (v := .int .i64 0) rfl
  have s7 := soft_blk GN.out.rs 7
  have r8 := cell_blk GN.out.rs 8 (v := .int .i64 0) rfl
  have s8 := soft_blk GN.out.rs 8
  go_wp2_with fail
  have SA := set_all GN.out.rs (.int .i64 2) (.int .i64 v1) (.int .i64 v2) (.bool pb) (.string kb) (.slice none 0 0) (.int .i64 42) (.int .i64 0) (.int .i64 0)
  have KF := GN.out.kept.trans SA.2 (fun j hj z => by have z : j = w.heap.size + 1 := z; omega)
  refine bodyPost_ret (results_cell_row rfl _ _ (w.heap.size + 1) 39 #[.int .i64 2, .int .i64 v1, .int .i64 v2, .bool pb, .string kb, .slice none 0 0, .int .i64 42, .int .i64 0, .int .i64 0] (0, 0) _ rfl SA.1 Tryz.underlying39 rfl (by kernel_rfl)) rfl ?_
  exact ⟨rfl, KF⟩
set_option maxRecDepth 100000 in
theorem hEndAbs (v1 v2 : Int) (pb : Bool) (kb : ByteArray) (g m c : Nat)  (w : World) (c0 : w.cell? ⟨g, 5, none⟩ = some (.string ⟨#[97, 98, 115, 101, 110, 116]⟩)) (hm : 1 ≤ m) : Calls Tryz.prog 69 #[.agg #[.int .i64 2, .int .i64 v1, .int .i64 v2, .bool pb, .string kb, .slice none 0 0, .int .i64 0, .int .i64 0, .int .i64 0], .slice (some ⟨g, 5, none⟩) m c] w fun o w' => o = .returned (.agg #[.int .i64 2, .int .i64 v1, .int .i64 v2, .bool pb, .string kb, .slice none 0 0, .int .i64 76, .int .i64 0, .int .i64 0]) ∧ Kept (fun _ => False) w w' := by
  have m1 : (0 : Int) < (m : Int) := by omega
  obtain ⟨W0, hW0⟩ : ∃ W0, W0 = (w.alloc (.cells #[.int .i64 2, .int .i64 v1, .int .i64 v2, .bool pb, .string kb, .slice none 0 0, .int .i64 0, .int .i64 0, .int .i64 0] 39)).alloc (.cells #[.int .i64 0, .int .i64 0, .int .i64 0, .bool false, .string ⟨#[]⟩, .slice none 0 0, .int .i64 0, .int .i64 0, .int .i64 0] 39) := ⟨_, rfl⟩
  have G0 : Hid (En w W0 #[.int .i64 2, .int .i64 v1, .int .i64 v2, .bool pb, .string kb, .slice none 0 0, .int .i64 0, .int .i64 0, .int .i64 0]) := by rw [hW0]; exact En.start w _
  have EW : Hid (W0 = (w.alloc (.cells #[.int .i64 2, .int .i64 v1, .int .i64 v2, .bool pb, .string kb, .slice none 0 0, .int .i64 0, .int .i64 0, .int .i64 0] 39)).alloc (.cells #[.int .i64 0, .int .i64 0, .int .i64 0, .bool false, .string ⟨#[]⟩, .slice none 0 0, .int .i64 0, .int .i64 0, .int .i64 0] 39)) := hW0
  clear hW0
  have CW : Hid (∀ V, Kept (fun _ => False) w V → V.cell? ⟨g, 5, none⟩ = some (.string ⟨#[97, 98, 115, 101, 110, 116]⟩)) := fun V K => K.cell c0 (fun z => z)
  have k0 := CW.out _ G0.out.kept
  clear c0
  go_enter Tryz.func69, Tryz.ntmps69
  go_upto_region 1 with fail
  rw [← EW.out]
  clear EW
  have d6 := cell_blk G0.out.bx 6 (v := .int .i64 0) rfl
  have t6 := soft_blk G0.out.bx 6
  have GN : Hid (En w (W0.setCell ⟨w.heap.size, 6, none⟩ (.int .i64 76)) #[.int .i64 2, .int .i64 v1, .int .i64 v2, .bool pb, .string kb, .slice none 0 0, .int .i64 76, .int .i64 0, .int .i64 0]) := (G0.out.set 6 (.int .i64 76))
  have e0 := cell_blk GN.out.bx 0 (v := .int .i64 2) rfl
  have e1 := cell_blk GN.out.bx 1 (v := .int .i64 v1) rfl
  have e2 := cell_blk GN.out.bx 2 (v := .int .i64 v2) rfl
  have e3 := cell_blk GN.out.bx 3 (v := .bool pb) rfl
  have e4 := cell_blk GN.out.bx 4 (v := .string kb) rfl
  have e5 := cell_blk GN.out.bx 5 (v := .slice none 0 0) rfl
  have e6 := cell_blk GN.out.bx 6 (v := .int .i64 76) rfl
  have e7 := cell_blk GN.out.bx 7 (v := .int .i64 0) rfl
  have e8 := cell_blk GN.out.bx 8 (v := .int .i64 0) rfl
  have r0 := cell_blk GN.out.rs 0 (v := .int .i64 0) rfl
  have s0 := soft_blk GN.out.rs 0
  have r1 := cell_blk GN.out.rs 1 (v := .int .i64 0) rfl
  have s1 := soft_blk GN.out.rs 1
  have r2 := cell_blk GN.out.rs 2 (v := .int .i64 0) rfl
  have s2 := soft_blk GN.out.rs 2
  have r3 := cell_blk GN.out.rs 3 (v := .bool false) rfl
  have s3 := soft_blk GN.out.rs 3
  have r4 := cell_blk GN.out.rs 4 (v := .string ⟨#[]⟩) rfl
  have s4 := soft_blk GN.out.rs 4
  have r5 := cell_blk GN.out.rs 5 (v := .slice none 0 0) rfl
  have s5 := soft_blk GN.out.rs 5
  have r6 := cell_blk GN.out.rs 6 (v := .int .i64 0) rfl
  have s6 := soft_blk GN.out.rs 6
  have r7 := cell_blk GN.out.rs 7 (v := .int .i64 0) rfl
  have s7 := soft_blk GN.out.rs 7
  have r8 := cell_blk GN.out.rs 8 (v := .int .i64 0) rfl
  have s8 := soft_blk GN.out.rs 8
  go_wp2_with fail
  have SA := set_all GN.out.rs (.int .i64 2) (.int .i64 v1) (.int .i64 v2) (.bool pb) (.string kb) (.slice none 0 0) (.int .i64 76) (.int .i64 0) (.int .i64 0)
  have KF := GN.out.kept.trans SA.2 (fun j hj z => by have z : j = w.heap.size + 1 := z; omega)
  refine bodyPost_ret (results_cell_row rfl _ _ (w.heap.size + 1) 39 #[.int .i64 2, .int .i64 v1, .int .i64 v2, .bool pb, .string kb, .slice none 0 0, .int .i64 76, .int .i64 0, .int .i64 0] (0, 0) _ rfl SA.1 Tryz.underlying39 rfl (by kernel_rfl)) rfl ?_
  exact ⟨rfl, KF⟩
set_option maxRecDepth 100000 in
theorem hEndOk1 (v1 v2 : Int) (pb : Bool) (kb : ByteArray) (g m c : Nat)  (w : World) (c0 : w.cell? ⟨g, 5, none⟩ = some (.string ⟨#[111, 107]⟩)) (m1e : m = 1) : Calls Tryz.prog 69 #[.agg #[.int .i64 2, .int .i64 v1, .int .i64 v2, .bool pb, .string kb, .slice none 0 0, .int .i64 0, .int .i64 0, .int .i64 0], .slice (some ⟨g, 5, none⟩) m c] w fun o w' => o = .returned (.agg #[.int .i64 2, .int .i64 v1, .int .i64 v2, .bool pb, .string kb, .slice none 0 0, .int .i64 0, .int .i64 0, .int .i64 0]) ∧ Kept (fun _ => False) w w' := by
  have m1 : (0 : Int) < (m : Int) := by omega
  obtain ⟨W0, hW0⟩ : ∃ W0, W0 = (w.alloc (.cells #[.int .i64 2, .int .i64 v1, .int .i64 v2, .bool pb, .string kb, .slice none 0 0, .int .i64 0, .int .i64 0, .int .i64 0] 39)).alloc (.cells #[.int .i64 0, .int .i64 0, .int .i64 0, .bool false, .string ⟨#[]⟩, .slice none 0 0, .int .i64 0, .int .i64 0, .int .i64 0] 39) := ⟨_, rfl⟩
  have G0 : Hid (En w W0 #[.int .i64 2, .int .i64 v1, .int .i64 v2, .bool pb, .string kb, .slice none 0 0, .int .i64 0, .int .i64 0, .int .i64 0]) := by rw [hW0]; exact En.start w _
  have EW : Hid (W0 = (w.alloc (.cells #[.int .i64 2, .int .i64 v1, .int .i64 v2, .bool pb, .string kb, .slice none 0 0, .int .i64 0, .int .i64 0, .int .i64 0] 39)).alloc (.cells #[.int .i64 0, .int .i64 0, .int .i64 0, .bool false, .string ⟨#[]⟩, .slice none 0 0, .int .i64 0, .int .i64 0, .int .i64 0] 39)) := hW0
  clear hW0
  have CW : Hid (∀ V, Kept (fun _ => False) w V → V.cell? ⟨g, 5, none⟩ = some (.string ⟨#[111, 107]⟩)) := fun V K => K.cell c0 (fun z => z)
  have g1 : ¬ (1 : Int) < (m : Int) := by omega
  have g1b : ¬ (m : Int) > 1 := by omega
  have g2 : ¬ (2 : Int) < (m : Int) := by omega
  have g2b : ¬ (m : Int) > 2 := by omega
  clear m1e
  have k0 := CW.out _ G0.out.kept
  clear c0
  go_enter Tryz.func69, Tryz.ntmps69
  go_upto_region 1 with fail
  rw [← EW.out]
  clear EW
  have GN : Hid (En w W0 #[.int .i64 2, .int .i64 v1, .int .i64 v2, .bool pb, .string kb, .slice none 0 0, .int .i64 0, .int .i64 0, .int .i64 0]) := G0.out
  have e0 := cell_blk GN.out.bx 0 (v := .int .i64 2) rfl
  have e1 := cell_blk GN.out.bx 1 (v := .int .i64 v1) rfl
  have e2 := cell_blk GN.out.bx 2 (v := .int .i64 v2) rfl
  have e3 := cell_blk GN.out.bx 3 (v := .bool pb) rfl
  have e4 := cell_blk GN.out.bx 4 (v := .string kb) rfl
  have e5 := cell_blk GN.out.bx 5 (v := .slice none 0 0) rfl
  have e6 := cell_blk GN.out.bx 6 (v := .int .i64 0) rfl
  have e7 := cell_blk GN.out.bx 7 (v := .int .i64 0) rfl
  have e8 := cell_blk GN.out.bx 8 (v := .int .i64 0) rfl
  have r0 := cell_blk GN.out.rs 0 (v := .int .i64 0) rfl
  have s0 := soft_blk GN.out.rs 0
  have r1 := cell_blk GN.out.rs 1 (v := .int .i64 0) rfl
  have s1 := soft_blk GN.out.rs 1
  have r2 := cell_blk GN.out.rs 2 (v := .int .i64 0) rfl
  have s2 := soft_blk GN.out.rs 2
  have r3 := cell_blk GN.out.rs 3 (v := .bool false) rfl
  have s3 := soft_blk GN.out.rs 3
  have r4 := cell_blk GN.out.rs 4 (v := .string ⟨#[]⟩) rfl
  have s4 := soft_blk GN.out.rs 4
  have r5 := cell_blk GN.out.rs 5 (v := .slice none 0 0) rfl
  have s5 := soft_blk GN.out.rs 5
  have r6 := cell_blk GN.out.rs 6 (v := .int .i64 0) rfl
  have s6 := soft_blk GN.out.rs 6
  have r7 := cell_blk GN.out.rs 7 (v := .int .i64 0) rfl
  have s7 := soft_blk GN.out.rs 7
  have r8 := cell_blk GN.out.rs 8 (v := .int .i64 0) rfl
  have s8 := soft_blk GN.out.rs 8
  go_wp2_with fail
  have SA := set_all GN.out.rs (.int .i64 2) (.int .i64 v1) (.int .i64 v2) (.bool pb) (.string kb) (.slice none 0 0) (.int .i64 0) (.int .i64 0) (.int .i64 0)
  have KF := GN.out.kept.trans SA.2 (fun j hj z => by have z : j = w.heap.size + 1 := z; omega)
  refine bodyPost_ret (results_cell_row rfl _ _ (w.heap.size + 1) 39 #[.int .i64 2, .int .i64 v1, .int .i64 v2, .bool pb, .string kb, .slice none 0 0, .int .i64 0, .int .i64 0, .int .i64 0] (0, 0) _ rfl SA.1 Tryz.underlying39 rfl (by kernel_rfl)) rfl ?_
  exact ⟨rfl, KF⟩
set_option maxRecDepth 100000 in
theorem hEndOk2 (v1 v2 : Int) (pb : Bool) (kb : ByteArray) (g m c : Nat) (a1 : ByteArray) (ha1 : a1.size ≤ 1000000000) (w : World) (c0 : w.cell? ⟨g, 5, none⟩ = some (.string ⟨#[111, 107]⟩)) (c1 : w.cell? ⟨g, 6, none⟩ = some (.string a1)) (m2e : m = 2) : Calls Tryz.prog 69 #[.agg #[.int .i64 2, .int .i64 v1, .int .i64 v2, .bool pb, .string kb, .slice none 0 0, .int .i64 0, .int .i64 0, .int .i64 0], .slice (some ⟨g, 5, none⟩) m c] w fun o w' => ∃ x y er : Int, o = .returned (.agg #[.int .i64 2, .int .i64 v1, .int .i64 v2, .bool pb, .string kb, .slice none 0 0, .int .i64 0, .int .i64 x, .int .i64 y]) ∧ TPar a1.data.toList x y er ∧ Kept (fun _ => False) w w' := by
  have m1 : (0 : Int) < (m : Int) := by omega
  obtain ⟨W0, hW0⟩ : ∃ W0, W0 = (w.alloc (.cells #[.int .i64 2, .int .i64 v1, .int .i64 v2, .bool pb, .string kb, .slice none 0 0, .int .i64 0, .int .i64 0, .int .i64 0] 39)).alloc (.cells #[.int .i64 0, .int .i64 0, .int .i64 0, .bool false, .string ⟨#[]⟩, .slice none 0 0, .int .i64 0, .int .i64 0, .int .i64 0] 39) := ⟨_, rfl⟩
  have G0 : Hid (En w W0 #[.int .i64 2, .int .i64 v1, .int .i64 v2, .bool pb, .string kb, .slice none 0 0, .int .i64 0, .int .i64 0, .int .i64 0]) := by rw [hW0]; exact En.start w _
  have EW : Hid (W0 = (w.alloc (.cells #[.int .i64 2, .int .i64 v1, .int .i64 v2, .bool pb, .string kb, .slice none 0 0, .int .i64 0, .int .i64 0, .int .i64 0] 39)).alloc (.cells #[.int .i64 0, .int .i64 0, .int .i64 0, .bool false, .string ⟨#[]⟩, .slice none 0 0, .int .i64 0, .int .i64 0, .int .i64 0] 39)) := hW0
  clear hW0
  have CW : Hid (∀ V, Kept (fun _ => False) w V → V.cell? ⟨g, 5, none⟩ = some (.string ⟨#[111, 107]⟩)) := fun V K => K.cell c0 (fun z => z)
  have g1 : (1 : Int) < (m : Int) := by omega
  have g1b : (m : Int) > 1 := by omega
  have g2 : ¬ (2 : Int) < (m : Int) := by omega
  have g2b : ¬ (m : Int) > 2 := by omega
  have CT : Hid (∀ U, Calls Tryz.prog 70 #[.string a1] U fun o w' => ∃ x y e : Int, o = .returned (.agg #[.int .i64 x, .int .i64 y]) ∧ TPar a1.data.toList x y e ∧ Kept (fun _ => False) U w') := fun U => hTagD a1 ha1 U
  have CX6 : Hid (∀ V, Kept (fun _ => False) w V → V.cell? ⟨g, 6, none⟩ = some (.string a1)) := fun V K => K.cell c1 (fun z => z)
  clear m2e ha1 c1
  have k0 := CW.out _ G0.out.kept
  clear c0
  go_enter Tryz.func69, Tryz.ntmps69
  go_upto_region 1 with fail
  rw [← EW.out]
  clear EW
  have q6 := CX6.out _ (G0.out.kept)
  go_wp2_with fail
  clear q6
  clear k0
  refine (CT.out _).mono ?_
  rintro o w1 ⟨x, y, er, rfl, TP', K⟩
  have TP : Hid (TPar a1.data.toList x y er) := TP'
  clear TP' CT
  have G1 : Hid (En w w1 #[.int .i64 2, .int .i64 v1, .int .i64 v2, .bool pb, .string kb, .slice none 0 0, .int .i64 0, .int .i64 0, .int .i64 0]) := G0.out.keep K
  clear G0 K
  have d7 := cell_blk G1.out.bx 7 (v := .int .i64 0) rfl
  have t7 := soft_blk G1.out.bx 7
  have d8 := cell_blk G1.out.bx 8 (v := .int .i64 0) rfl
  have t8 := soft_blk G1.out.bx 8
  have GN : Hid (En w ((w1.setCell ⟨w.heap.size, 7, none⟩ (.int .i64 x)).setCell ⟨w.heap.size, 8, none⟩ (.int .i64 y)) #[.int .i64 2, .int .i64 v1, .int .i64 v2, .bool pb, .string kb, .slice none 0 0, .int .i64 0, .int .i64 x, .int .i64 y]) := ((G1.out.set 7 (.int .i64 x)).set 8 (.int .i64 y))
  have e0 := cell_blk GN.out.bx 0 (v := .int .i64 2) rfl
  have e1 := cell_blk GN.out.bx 1 (v := .int .i64 v1) rfl
  have e2 := cell_blk GN.out.bx 2 (v := .int .i64 v2) rfl
  have e3 := cell_blk GN.out.bx 3 (v := .bool pb) rfl
  have e4 := cell_blk GN.out.bx 4 (v := .string kb) rfl
  have e5 := cell_blk GN.out.bx 5 (v := .slice none 0 0) rfl
  have e6 := cell_blk GN.out.bx 6 (v := .int .i64 0) rfl
  have e7 := cell_blk GN.out.bx 7 (v := .int .i64 x) rfl
  have e8 := cell_blk GN.out.bx 8 (v := .int .i64 y) rfl
  have r0 := cell_blk GN.out.rs 0 (v := .int .i64 0) rfl
  have s0 := soft_blk GN.out.rs 0
  have r1 := cell_blk GN.out.rs 1 (v := .int .i64 0) rfl
  have s1 := soft_blk GN.out.rs 1
  have r2 := cell_blk GN.out.rs 2 (v := .int .i64 0) rfl
  have s2 := soft_blk GN.out.rs 2
  have r3 := cell_blk GN.out.rs 3 (v := .bool false) rfl
  have s3 := soft_blk GN.out.rs 3
  have r4 := cell_blk GN.out.rs 4 (v := .string ⟨#[]⟩) rfl
  have s4 := soft_blk GN.out.rs 4
  have r5 := cell_blk GN.out.rs 5 (v := .slice none 0 0) rfl
  have s5 := soft_blk GN.out.rs 5
  have r6 := cell_blk GN.out.rs 6 (v := .int .i64 0) rfl
  have s6 := soft_blk GN.out.rs 6
  have r7 := cell_blk GN.out.rs 7 (v := .int .i64 0) rfl
  have s7 := soft_blk GN.out.rs 7
  have r8 := cell_blk GN.out.rs 8 (v := .int .i64 0) rfl
  have s8 := soft_blk GN.out.rs 8
  go_wp2_with fail
  have SA := set_all GN.out.rs (.int .i64 2) (.int .i64 v1) (.int .i64 v2) (.bool pb) (.string kb) (.slice none 0 0) (.int .i64 0) (.int .i64 x) (.int .i64 y)
  have KF := GN.out.kept.trans SA.2 (fun j hj z => by have z : j = w.heap.size + 1 := z; omega)
  refine bodyPost_ret (results_cell_row rfl _ _ (w.heap.size + 1) 39 #[.int .i64 2, .int .i64 v1, .int .i64 v2, .bool pb, .string kb, .slice none 0 0, .int .i64 0, .int .i64 x, .int .i64 y] (0, 0) _ rfl SA.1 Tryz.underlying39 rfl (by kernel_rfl)) rfl ?_
  exact ⟨x, y, er, rfl, TP.out, KF⟩
set_option maxRecDepth 100000 in
theorem hEndOk3 (v1 v2 : Int) (pb : Bool) (kb : ByteArray) (g m c : Nat) (a1 a2 : ByteArray) (ha1 : a1.size ≤ 1000000000) (ha2 : a2.size ≤ 1000000000) (w : World) (c0 : w.cell? ⟨g, 5, none⟩ = some (.string ⟨#[111, 107]⟩)) (c1 : w.cell? ⟨g, 6, none⟩ = some (.string a1)) (c2 : w.cell? ⟨g, 7, none⟩ = some (.string a2)) (m3e : 3 ≤ m) : Calls Tryz.prog 69 #[.agg #[.int .i64 2, .int .i64 v1, .int .i64 v2, .bool pb, .string kb, .slice none 0 0, .int .i64 0, .int .i64 0, .int .i64 0], .slice (some ⟨g, 5, none⟩) m c] w fun o w' => ∃ (x y er : Int) (pv : Option Addr) (kv cv : Nat), o = .returned (.agg #[.int .i64 2, .int .i64 v1, .int .i64 v2, .bool pb, .string kb, .slice pv kv cv, .int .i64 0, .int .i64 x, .int .i64 y]) ∧ TPar a1.data.toList x y er ∧ w'.ownsRow w.heap.size 5 1 (.slice pv kv cv) kv (cellsOf (meaB a2)) ∧ (∀ x ∈ meaB a2, x < 256) ∧ Kept (fun _ => False) w w' := by
  have m1 : (0 : Int) < (m : Int) := by omega
  obtain ⟨W0, hW0⟩ : ∃ W0, W0 = (w.alloc (.cells #[.int .i64 2, .int .i64 v1, .int .i64 v2, .bool pb, .string kb, .slice none 0 0, .int .i64 0, .int .i64 0, .int .i64 0] 39)).alloc (.cells #[.int .i64 0, .int .i64 0, .int .i64 0, .bool false, .string ⟨#[]⟩, .slice none 0 0, .int .i64 0, .int .i64 0, .int .i64 0] 39) := ⟨_, rfl⟩
  have G0 : Hid (En w W0 #[.int .i64 2, .int .i64 v1, .int .i64 v2, .bool pb, .string kb, .slice none 0 0, .int .i64 0, .int .i64 0, .int .i64 0]) := by rw [hW0]; exact En.start w _
  have EW : Hid (W0 = (w.alloc (.cells #[.int .i64 2, .int .i64 v1, .int .i64 v2, .bool pb, .string kb, .slice none 0 0, .int .i64 0, .int .i64 0, .int .i64 0] 39)).alloc (.cells #[.int .i64 0, .int .i64 0, .int .i64 0, .bool false, .string ⟨#[]⟩, .slice none 0 0, .int .i64 0, .int .i64 0, .int .i64 0] 39)) := hW0
  clear hW0
  have CW : Hid (∀ V, Kept (fun _ => False) w V → V.cell? ⟨g, 5, none⟩ = some (.string ⟨#[111, 107]⟩)) := fun V K => K.cell c0 (fun z => z)
  have g1 : (1 : Int) < (m : Int) := by omega
  have g1b : (m : Int) > 1 := by omega
  have g2 : (2 : Int) < (m : Int) := by omega
  have g2b : (m : Int) > 2 := by omega
  have CT : Hid (∀ U, Calls Tryz.prog 70 #[.string a1] U fun o w' => ∃ x y e : Int, o = .returned (.agg #[.int .i64 x, .int .i64 y]) ∧ TPar a1.data.toList x y e ∧ Kept (fun _ => False) U w') := fun U => hTagD a1 ha1 U
  have CM : Hid (∀ U, Calls Tryz.prog 68 #[.string a2] U fun o w' => ∃ p k c, o = .returned (.slice p k c) ∧ QS U (meaB a2) p k c w' ∧ (∀ x ∈ meaB a2, x < 256)) := fun U => hMeant a2 ha2 U
  have CX6 : Hid (∀ V, Kept (fun _ => False) w V → V.cell? ⟨g, 6, none⟩ = some (.string a1)) := fun V K => K.cell c1 (fun z => z)
  have CX7 : Hid (∀ V, Kept (fun _ => False) w V → V.cell? ⟨g, 7, none⟩ = some (.string a2)) := fun V K => K.cell c2 (fun z => z)
  clear m3e ha1 ha2 c1 c2
  have k0 := CW.out _ G0.out.kept
  clear c0
  go_enter Tryz.func69, Tryz.ntmps69
  go_upto_region 1 with fail
  rw [← EW.out]
  clear EW
  have q6 := CX6.out _ (G0.out.kept)
  go_wp2_with fail
  clear q6
  clear k0
  refine (CT.out _).mono ?_
  rintro o w1 ⟨x, y, er, rfl, TP', K⟩
  have TP : Hid (TPar a1.data.toList x y er) := TP'
  clear TP' CT
  have G1 : Hid (En w w1 #[.int .i64 2, .int .i64 v1, .int .i64 v2, .bool pb, .string kb, .slice none 0 0, .int .i64 0, .int .i64 0, .int .i64 0]) := G0.out.keep K
  clear G0 K
  have d7 := cell_blk G1.out.bx 7 (v := .int .i64 0) rfl
  have t7 := soft_blk G1.out.bx 7
  have d8 := cell_blk G1.out.bx 8 (v := .int .i64 0) rfl
  have t8 := soft_blk G1.out.bx 8
  have q7 : ((w1.setCell ⟨w.heap.size, 7, none⟩ (.int .i64 x)).setCell ⟨w.heap.size, 8, none⟩ (.int .i64 y)).cell? ⟨g, 7, none⟩ = some (.string a2) := by
    have e := CX7.out _ (((G1.out.set 7 (.int .i64 x)).set 8 (.int .i64 y)).kept)
    exact e
  go_wp2_with fail
  clear q7
  clear d7 t7
  clear d8 t8
  have G2 : Hid (En w (w1.setCell ⟨w.heap.size, 7, none⟩ (.int .i64 x)) #[.int .i64 2, .int .i64 v1, .int .i64 v2, .bool pb, .string kb, .slice none 0 0, .int .i64 0, .int .i64 x, .int .i64 0]) := G1.out.set 7 (.int .i64 x)
  clear G1
  have G3 : Hid (En w ((w1.setCell ⟨w.heap.size, 7, none⟩ (.int .i64 x)).setCell ⟨w.heap.size, 8, none⟩ (.int .i64 y)) #[.int .i64 2, .int .i64 v1, .int .i64 v2, .bool pb, .string kb, .slice none 0 0, .int .i64 0, .int .i64 x, .int .i64 y]) := G2.out.set 8 (.int .i64 y)
  clear G2
  have BL := block_lt G3.out.rs
  refine (CM.out _).mono ?_
  rintro o w2 ⟨pv, kv, cv, rfl, Q, bv⟩
  have OW : Hid (w2.ownsRow (w.heap.size + 2) 5 1 (.slice pv kv cv) kv (cellsOf (meaB a2)) ∧ (∀ x ∈ meaB a2, x < 256)) := ⟨owns_mono Q.row (by first | omega | (simp at BL ⊢; omega)), bv⟩
  have K := Q.kept
  have G4 : Hid (En w w2 #[.int .i64 2, .int .i64 v1, .int .i64 v2, .bool pb, .string kb, .slice none 0 0, .int .i64 0, .int .i64 x, .int .i64 y]) := G3.out.keep K
  clear G3 K Q bv CM BL
  have d5 := cell_blk G4.out.bx 5 (v := .slice none 0 0) rfl
  have t5 := soft_blk G4.out.bx 5
  have GN : Hid (En w (w2.setCell ⟨w.heap.size, 5, none⟩ (.slice pv kv cv)) #[.int .i64 2, .int .i64 v1, .int .i64 v2, .bool pb, .string kb, .slice pv kv cv, .int .i64 0, .int .i64 x, .int .i64 y]) := (G4.out.set 5 (.slice pv kv cv))
  have e0 := cell_blk GN.out.bx 0 (v := .int .i64 2) rfl
  have e1 := cell_blk GN.out.bx 1 (v := .int .i64 v1) rfl
  have e2 := cell_blk GN.out.bx 2 (v := .int .i64 v2) rfl
  have e3 := cell_blk GN.out.bx 3 (v := .bool pb) rfl
  have e4 := cell_blk GN.out.bx 4 (v := .string kb) rfl
  have e5 := cell_blk GN.out.bx 5 (v := .slice pv kv cv) rfl
  have e6 := cell_blk GN.out.bx 6 (v := .int .i64 0) rfl
  have e7 := cell_blk GN.out.bx 7 (v := .int .i64 x) rfl
  have e8 := cell_blk GN.out.bx 8 (v := .int .i64 y) rfl
  have r0 := cell_blk GN.out.rs 0 (v := .int .i64 0) rfl
  have s0 := soft_blk GN.out.rs 0
  have r1 := cell_blk GN.out.rs 1 (v := .int .i64 0) rfl
  have s1 := soft_blk GN.out.rs 1
  have r2 := cell_blk GN.out.rs 2 (v := .int .i64 0) rfl
  have s2 := soft_blk GN.out.rs 2
  have r3 := cell_blk GN.out.rs 3 (v := .bool false) rfl
  have s3 := soft_blk GN.out.rs 3
  have r4 := cell_blk GN.out.rs 4 (v := .string ⟨#[]⟩) rfl
  have s4 := soft_blk GN.out.rs 4
  have r5 := cell_blk GN.out.rs 5 (v := .slice none 0 0) rfl
  have s5 := soft_blk GN.out.rs 5
  have r6 := cell_blk GN.out.rs 6 (v := .int .i64 0) rfl
  have s6 := soft_blk GN.out.rs 6
  have r7 := cell_blk GN.out.rs 7 (v := .int .i64 0) rfl
  have s7 := soft_blk GN.out.rs 7
  have r8 := cell_blk GN.out.rs 8 (v := .int .i64 0) rfl
  have s8 := soft_blk GN.out.rs 8
  go_wp2_with fail
  have SA := set_all GN.out.rs (.int .i64 2) (.int .i64 v1) (.int .i64 v2) (.bool pb) (.string kb) (.slice pv kv cv) (.int .i64 0) (.int .i64 x) (.int .i64 y)
  have KF := GN.out.kept.trans SA.2 (fun j hj z => by have z : j = w.heap.size + 1 := z; omega)
  have OA := ((Kept.refl (fun j => j = w.heap.size) w2).setCell (p := ⟨w.heap.size, 5, none⟩) (fun _ => rfl) (.slice pv kv cv)).owns OW.out.1 (fun k hk z => by have q := OW.out.1.lt k hk; have z : k = w.heap.size := z; omega)
  have OB := SA.2.owns OA (fun k hk z => by have q := OA.lt k hk; have z : k = w.heap.size + 1 := z; omega)
  refine bodyPost_ret (results_cell_row rfl _ _ (w.heap.size + 1) 39 #[.int .i64 2, .int .i64 v1, .int .i64 v2, .bool pb, .string kb, .slice pv kv cv, .int .i64 0, .int .i64 x, .int .i64 y] (0, 0) _ rfl SA.1 Tryz.underlying39 rfl (by kernel_rfl)) rfl ?_
  exact ⟨x, y, er, pv, kv, cv, rfl, TP.out, owns_mono OB (show w.heap.size ≤ w.heap.size + 2 by omega), OW.out.2, KF⟩
set_option maxRecDepth 100000 in
theorem hEndWr3 (v1 v2 : Int) (pb : Bool) (kb : ByteArray) (g m c : Nat) (a1 a2 : ByteArray) (M : Nat) (ha1 : a1.size ≤ 1000000000) (ha2 : a2.size ≤ 1000000000) (w : World) (c0 : w.cell? ⟨g, 5, none⟩ = some (.string ⟨#[119, 114, 111, 110, 103]⟩)) (c1 : w.cell? ⟨g, 6, none⟩ = some (.string a1)) (c2 : w.cell? ⟨g, 7, none⟩ = some (.string a2)) (m3e : 3 ≤ m) : Calls Tryz.prog 69 #[.agg #[.int .i64 2, .int .i64 v1, .int .i64 v2, .bool pb, .string kb, .slice none 0 0, .int .i64 0, .int .i64 0, .int .i64 0], .slice (some ⟨g, 5, none⟩) m c] w fun o w' => ∃ v x y er : Int, o = .returned (.agg #[.int .i64 2, .int .i64 v1, .int .i64 v2, .bool pb, .string kb, .slice none 0 0, .int .i64 v, .int .i64 x, .int .i64 y]) ∧ (a1 = decB M ∧ M ≤ 4611686018427387903 → v = (M : Int)) ∧ TPar a2.data.toList x y er ∧ Kept (fun _ => False) w w' := by
  have m1 : (0 : Int) < (m : Int) := by omega
  obtain ⟨W0, hW0⟩ : ∃ W0, W0 = (w.alloc (.cells #[.int .i64 2, .int .i64 v1, .int .i64 v2, .bool pb, .string kb, .slice none 0 0, .int .i64 0, .int .i64 0, .int .i64 0] 39)).alloc (.cells #[.int .i64 0, .int .i64 0, .int .i64 0, .bool false, .string ⟨#[]⟩, .slice none 0 0, .int .i64 0, .int .i64 0, .int .i64 0] 39) := ⟨_, rfl⟩
  have G0 : Hid (En w W0 #[.int .i64 2, .int .i64 v1, .int .i64 v2, .bool pb, .string kb, .slice none 0 0, .int .i64 0, .int .i64 0, .int .i64 0]) := by rw [hW0]; exact En.start w _
  have EW : Hid (W0 = (w.alloc (.cells #[.int .i64 2, .int .i64 v1, .int .i64 v2, .bool pb, .string kb, .slice none 0 0, .int .i64 0, .int .i64 0, .int .i64 0] 39)).alloc (.cells #[.int .i64 0, .int .i64 0, .int .i64 0, .bool false, .string ⟨#[]⟩, .slice none 0 0, .int .i64 0, .int .i64 0, .int .i64 0] 39)) := hW0
  clear hW0
  have CW : Hid (∀ V, Kept (fun _ => False) w V → V.cell? ⟨g, 5, none⟩ = some (.string ⟨#[119, 114, 111, 110, 103]⟩)) := fun V K => K.cell c0 (fun z => z)
  have g1 : (1 : Int) < (m : Int) := by omega
  have g1b : (m : Int) > 1 := by omega
  have g2 : (2 : Int) < (m : Int) := by omega
  have g2b : (m : Int) > 2 := by omega
  have CN : Hid (∀ U, Calls Tryz.prog 67 #[.string a1] U fun o w' => ∃ v : Int, o = .returned (.int .i64 v) ∧ (a1 = decB M ∧ M ≤ 4611686018427387903 → v = (M : Int)) ∧ w' = U) := fun U => hRead a1 M U ha1
  have CT : Hid (∀ U, Calls Tryz.prog 70 #[.string a2] U fun o w' => ∃ x y e : Int, o = .returned (.agg #[.int .i64 x, .int .i64 y]) ∧ TPar a2.data.toList x y e ∧ Kept (fun _ => False) U w') := fun U => hTagD a2 ha2 U
  have CX6 : Hid (∀ V, Kept (fun _ => False) w V → V.cell? ⟨g, 6, none⟩ = some (.string a1)) := fun V K => K.cell c1 (fun z => z)
  have CX7 : Hid (∀ V, Kept (fun _ => False) w V → V.cell? ⟨g, 7, none⟩ = some (.string a2)) := fun V K => K.cell c2 (fun z => z)
  clear m3e ha1 ha2 c1 c2
  have k0 := CW.out _ G0.out.kept
  clear c0
  go_enter Tryz.func69, Tryz.ntmps69
  go_upto_region 1 with fail
  rw [← EW.out]
  clear EW
  have q6 := CX6.out _ (G0.out.kept)
  go_wp2_with fail
  clear q6
  clear k0
  refine (CN.out _).mono ?_
  rintro o w1 ⟨v, rfl, RV', hw⟩
  have RV : Hid _ := RV'
  clear RV' CN
  subst hw
  have d6 := cell_blk G0.out.bx 6 (v := .int .i64 0) rfl
  have t6 := soft_blk G0.out.bx 6
  have q7 : (w1.setCell ⟨w.heap.size, 6, none⟩ (.int .i64 v)).cell? ⟨g, 7, none⟩ = some (.string a2) := by
    have e := CX7.out _ ((G0.out.set 6 (.int .i64 v)).kept)
    exact e
  go_wp2_with fail
  clear q7
  clear d6 t6
  have G1 : Hid (En w (w1.setCell ⟨w.heap.size, 6, none⟩ (.int .i64 v)) #[.int .i64 2, .int .i64 v1, .int .i64 v2, .bool pb, .string kb, .slice none 0 0, .int .i64 v, .int .i64 0, .int .i64 0]) := G0.out.set 6 (.int .i64 v)
  clear G0
  refine (CT.out _).mono ?_
  rintro o w2 ⟨x, y, er, rfl, TP', K⟩
  have TP : Hid (TPar a2.data.toList x y er) := TP'
  clear TP' CT
  have G2 : Hid (En w w2 #[.int .i64 2, .int .i64 v1, .int .i64 v2, .bool pb, .string kb, .slice none 0 0, .int .i64 v, .int .i64 0, .int .i64 0]) := G1.out.keep K
  clear G1 K
  have d7 := cell_blk G2.out.bx 7 (v := .int .i64 0) rfl
  have t7 := soft_blk G2.out.bx 7
  have d8 := cell_blk G2.out.bx 8 (v := .int .i64 0) rfl
  have t8 := soft_blk G2.out.bx 8
  have GN : Hid (En w ((w2.setCell ⟨w.heap.size, 7, none⟩ (.int .i64 x)).setCell ⟨w.heap.size, 8, none⟩ (.int .i64 y)) #[.int .i64 2, .int .i64 v1, .int .i64 v2, .bool pb, .string kb, .slice none 0 0, .int .i64 v, .int .i64 x, .int .i64 y]) := ((G2.out.set 7 (.int .i64 x)).set 8 (.int .i64 y))
  have e0 := cell_blk GN.out.bx 0 (v := .int .i64 2) rfl
  have e1 := cell_blk GN.out.bx 1 (v := .int .i64 v1) rfl
  have e2 := cell_blk GN.out.bx 2 (v := .int .i64 v2) rfl
  have e3 := cell_blk GN.out.bx 3 (v := .bool pb) rfl
  have e4 := cell_blk GN.out.bx 4 (v := .string kb) rfl
  have e5 := cell_blk GN.out.bx 5 (v := .slice none 0 0) rfl
  have e6 := cell_blk GN.out.bx 6 (v := .int .i64 v) rfl
  have e7 := cell_blk GN.out.bx 7 (v := .int .i64 x) rfl
  have e8 := cell_blk GN.out.bx 8 (v := .int .i64 y) rfl
  have r0 := cell_blk GN.out.rs 0 (v := .int .i64 0) rfl
  have s0 := soft_blk GN.out.rs 0
  have r1 := cell_blk GN.out.rs 1 (v := .int .i64 0) rfl
  have s1 := soft_blk GN.out.rs 1
  have r2 := cell_blk GN.out.rs 2 (v := .int .i64 0) rfl
  have s2 := soft_blk GN.out.rs 2
  have r3 := cell_blk GN.out.rs 3 (v := .bool false) rfl
  have s3 := soft_blk GN.out.rs 3
  have r4 := cell_blk GN.out.rs 4 (v := .string ⟨#[]⟩) rfl
  have s4 := soft_blk GN.out.rs 4
  have r5 := cell_blk GN.out.rs 5 (v := .slice none 0 0) rfl
  have s5 := soft_blk GN.out.rs 5
  have r6 := cell_blk GN.out.rs 6 (v := .int .i64 0) rfl
  have s6 := soft_blk GN.out.rs 6
  have r7 := cell_blk GN.out.rs 7 (v := .int .i64 0) rfl
  have s7 := soft_blk GN.out.rs 7
  have r8 := cell_blk GN.out.rs 8 (v := .int .i64 0) rfl
  have s8 := soft_blk GN.out.rs 8
  go_wp2_with fail
  have SA := set_all GN.out.rs (.int .i64 2) (.int .i64 v1) (.int .i64 v2) (.bool pb) (.string kb) (.slice none 0 0) (.int .i64 v) (.int .i64 x) (.int .i64 y)
  have KF := GN.out.kept.trans SA.2 (fun j hj z => by have z : j = w.heap.size + 1 := z; omega)
  refine bodyPost_ret (results_cell_row rfl _ _ (w.heap.size + 1) 39 #[.int .i64 2, .int .i64 v1, .int .i64 v2, .bool pb, .string kb, .slice none 0 0, .int .i64 v, .int .i64 x, .int .i64 y] (0, 0) _ rfl SA.1 Tryz.underlying39 rfl (by kernel_rfl)) rfl ?_
  exact ⟨v, x, y, er, rfl, RV.out, TP.out, KF⟩
set_option maxRecDepth 100000 in
theorem hEndWr2 (v1 v2 : Int) (pb : Bool) (kb : ByteArray) (g m c : Nat)  (w : World) (c0 : w.cell? ⟨g, 5, none⟩ = some (.string ⟨#[119, 114, 111, 110, 103]⟩)) (hm : 1 ≤ m) (m2e : m ≤ 2) : Calls Tryz.prog 69 #[.agg #[.int .i64 2, .int .i64 v1, .int .i64 v2, .bool pb, .string kb, .slice none 0 0, .int .i64 0, .int .i64 0, .int .i64 0], .slice (some ⟨g, 5, none⟩) m c] w fun o w' => o = .returned (.agg #[.int .i64 2, .int .i64 v1, .int .i64 v2, .bool pb, .string kb, .slice none 0 0, .int .i64 0, .int .i64 0, .int .i64 0]) ∧ Kept (fun _ => False) w w' := by
  have m1 : (0 : Int) < (m : Int) := by omega
  obtain ⟨W0, hW0⟩ : ∃ W0, W0 = (w.alloc (.cells #[.int .i64 2, .int .i64 v1, .int .i64 v2, .bool pb, .string kb, .slice none 0 0, .int .i64 0, .int .i64 0, .int .i64 0] 39)).alloc (.cells #[.int .i64 0, .int .i64 0, .int .i64 0, .bool false, .string ⟨#[]⟩, .slice none 0 0, .int .i64 0, .int .i64 0, .int .i64 0] 39) := ⟨_, rfl⟩
  have G0 : Hid (En w W0 #[.int .i64 2, .int .i64 v1, .int .i64 v2, .bool pb, .string kb, .slice none 0 0, .int .i64 0, .int .i64 0, .int .i64 0]) := by rw [hW0]; exact En.start w _
  have EW : Hid (W0 = (w.alloc (.cells #[.int .i64 2, .int .i64 v1, .int .i64 v2, .bool pb, .string kb, .slice none 0 0, .int .i64 0, .int .i64 0, .int .i64 0] 39)).alloc (.cells #[.int .i64 0, .int .i64 0, .int .i64 0, .bool false, .string ⟨#[]⟩, .slice none 0 0, .int .i64 0, .int .i64 0, .int .i64 0] 39)) := hW0
  clear hW0
  have CW : Hid (∀ V, Kept (fun _ => False) w V → V.cell? ⟨g, 5, none⟩ = some (.string ⟨#[119, 114, 111, 110, 103]⟩)) := fun V K => K.cell c0 (fun z => z)
  have g2 : ¬ (2 : Int) < (m : Int) := by omega
  have g2b : ¬ (m : Int) > 2 := by omega
  clear m2e hm
  have k0 := CW.out _ G0.out.kept
  clear c0
  go_enter Tryz.func69, Tryz.ntmps69
  go_upto_region 1 with fail
  rw [← EW.out]
  clear EW
  have GN : Hid (En w W0 #[.int .i64 2, .int .i64 v1, .int .i64 v2, .bool pb, .string kb, .slice none 0 0, .int .i64 0, .int .i64 0, .int .i64 0]) := G0.out
  have e0 := cell_blk GN.out.bx 0 (v := .int .i64 2) rfl
  have e1 := cell_blk GN.out.bx 1 (v := .int .i64 v1) rfl
  have e2 := cell_blk GN.out.bx 2 (v := .int .i64 v2) rfl
  have e3 := cell_blk GN.out.bx 3 (v := .bool pb) rfl
  have e4 := cell_blk GN.out.bx 4 (v := .string kb) rfl
  have e5 := cell_blk GN.out.bx 5 (v := .slice none 0 0) rfl
  have e6 := cell_blk GN.out.bx 6 (v := .int .i64 0) rfl
  have e7 := cell_blk GN.out.bx 7 (v := .int .i64 0) rfl
  have e8 := cell_blk GN.out.bx 8 (v := .int .i64 0) rfl
  have r0 := cell_blk GN.out.rs 0 (v := .int .i64 0) rfl
  have s0 := soft_blk GN.out.rs 0
  have r1 := cell_blk GN.out.rs 1 (v := .int .i64 0) rfl
  have s1 := soft_blk GN.out.rs 1
  have r2 := cell_blk GN.out.rs 2 (v := .int .i64 0) rfl
  have s2 := soft_blk GN.out.rs 2
  have r3 := cell_blk GN.out.rs 3 (v := .bool false) rfl
  have s3 := soft_blk GN.out.rs 3
  have r4 := cell_blk GN.out.rs 4 (v := .string ⟨#[]⟩) rfl
  have s4 := soft_blk GN.out.rs 4
  have r5 := cell_blk GN.out.rs 5 (v := .slice none 0 0) rfl
  have s5 := soft_blk GN.out.rs 5
  have r6 := cell_blk GN.out.rs 6 (v := .int .i64 0) rfl
  have s6 := soft_blk GN.out.rs 6
  have r7 := cell_blk GN.out.rs 7 (v := .int .i64 0) rfl
  have s7 := soft_blk GN.out.rs 7
  have r8 := cell_blk GN.out.rs 8 (v := .int .i64 0) rfl
  have s8 := soft_blk GN.out.rs 8
  go_wp2_with fail
  have SA := set_all GN.out.rs (.int .i64 2) (.int .i64 v1) (.int .i64 v2) (.bool pb) (.string kb) (.slice none 0 0) (.int .i64 0) (.int .i64 0) (.int .i64 0)
  have KF := GN.out.kept.trans SA.2 (fun j hj z => by have z : j = w.heap.size + 1 := z; omega)
  refine bodyPost_ret (results_cell_row rfl _ _ (w.heap.size + 1) 39 #[.int .i64 2, .int .i64 v1, .int .i64 v2, .bool pb, .string kb, .slice none 0 0, .int .i64 0, .int .i64 0, .int .i64 0] (0, 0) _ rfl SA.1 Tryz.underlying39 rfl (by kernel_rfl)) rfl ?_
  exact ⟨rfl, KF⟩
set_option maxRecDepth 100000 in
theorem hEndNo (v1 v2 : Int) (pb : Bool) (kb : ByteArray) (g m c : Nat) (a0 : ByteArray) (w : World) (c0 : w.cell? ⟨g, 5, none⟩ = some (.string a0)) (hm : 1 ≤ m) (n1 : ¬ a0 = ⟨#[102, 117, 108, 108]⟩) (n2 : ¬ a0 = ⟨#[97, 98, 115, 101, 110, 116]⟩) (n3 : ¬ a0 = ⟨#[111, 107]⟩) (n4 : ¬ a0 = ⟨#[119, 114, 111, 110, 103]⟩) : Calls Tryz.prog 69 #[.agg #[.int .i64 2, .int .i64 v1, .int .i64 v2, .bool pb, .string kb, .slice none 0 0, .int .i64 0, .int .i64 0, .int .i64 0], .slice (some ⟨g, 5, none⟩) m c] w fun o w' => o = .returned (.agg #[.int .i64 2, .int .i64 v1, .int .i64 v2, .bool pb, .string kb, .slice none 0 0, .int .i64 0, .int .i64 0, .int .i64 0]) ∧ Kept (fun _ => False) w w' := by
  have m1 : (0 : Int) < (m : Int) := by omega
  obtain ⟨W0, hW0⟩ : ∃ W0, W0 = (w.alloc (.cells #[.int .i64 2, .int .i64 v1, .int .i64 v2, .bool pb, .string kb, .slice none 0 0, .int .i64 0, .int .i64 0, .int .i64 0] 39)).alloc (.cells #[.int .i64 0, .int .i64 0, .int .i64 0, .bool false, .string ⟨#[]⟩, .slice none 0 0, .int .i64 0, .int .i64 0, .int .i64 0] 39) := ⟨_, rfl⟩
  have G0 : Hid (En w W0 #[.int .i64 2, .int .i64 v1, .int .i64 v2, .bool pb, .string kb, .slice none 0 0, .int .i64 0, .int .i64 0, .int .i64 0]) := by rw [hW0]; exact En.start w _
  have EW : Hid (W0 = (w.alloc (.cells #[.int .i64 2, .int .i64 v1, .int .i64 v2, .bool pb, .string kb, .slice none 0 0, .int .i64 0, .int .i64 0, .int .i64 0] 39)).alloc (.cells #[.int .i64 0, .int .i64 0, .int .i64 0, .bool false, .string ⟨#[]⟩, .slice none 0 0, .int .i64 0, .int .i64 0, .int .i64 0] 39)) := hW0
  clear hW0
  have CW : Hid (∀ V, Kept (fun _ => False) w V → V.cell? ⟨g, 5, none⟩ = some (.string a0)) := fun V K => K.cell c0 (fun z => z)
  have f1 : (a0.toList == [102, 117, 108, 108]) = false := ne_list n1 (by rw [Go.ByteArray.toList_eq])
  have f2 : (a0.toList == [97, 98, 115, 101, 110, 116]) = false := ne_list n2 (by rw [Go.ByteArray.toList_eq])
  have f3 : (a0.toList == [111, 107]) = false := ne_list n3 (by rw [Go.ByteArray.toList_eq])
  have f4 : (a0.toList == [119, 114, 111, 110, 103]) = false := ne_list n4 (by rw [Go.ByteArray.toList_eq])
  clear n1 n2 n3 n4
  have k0 := CW.out _ G0.out.kept
  clear c0
  go_enter Tryz.func69, Tryz.ntmps69
  go_upto_region 1 with fail
  rw [← EW.out]
  clear EW
  have GN : Hid (En w W0 #[.int .i64 2, .int .i64 v1, .int .i64 v2, .bool pb, .string kb, .slice none 0 0, .int .i64 0, .int .i64 0, .int .i64 0]) := G0.out
  have e0 := cell_blk GN.out.bx 0 (v := .int .i64 2) rfl
  have e1 := cell_blk GN.out.bx 1 (v := .int .i64 v1) rfl
  have e2 := cell_blk GN.out.bx 2 (v := .int .i64 v2) rfl
  have e3 := cell_blk GN.out.bx 3 (v := .bool pb) rfl
  have e4 := cell_blk GN.out.bx 4 (v := .string kb) rfl
  have e5 := cell_blk GN.out.bx 5 (v := .slice none 0 0) rfl
  have e6 := cell_blk GN.out.bx 6 (v := .int .i64 0) rfl
  have e7 := cell_blk GN.out.bx 7 (v := .int .i64 0) rfl
  have e8 := cell_blk GN.out.bx 8 (v := .int .i64 0) rfl
  have r0 := cell_blk GN.out.rs 0 (v := .int .i64 0) rfl
  have s0 := soft_blk GN.out.rs 0
  have r1 := cell_blk GN.out.rs 1 (v := .int .i64 0) rfl
  have s1 := soft_blk GN.out.rs 1
  have r2 := cell_blk GN.out.rs 2 (v := .int .i64 0) rfl
  have s2 := soft_blk GN.out.rs 2
  have r3 := cell_blk GN.out.rs 3 (v := .bool false) rfl
  have s3 := soft_blk GN.out.rs 3
  have r4 := cell_blk GN.out.rs 4 (v := .string ⟨#[]⟩) rfl
  have s4 := soft_blk GN.out.rs 4
  have r5 := cell_blk GN.out.rs 5 (v := .slice none 0 0) rfl
  have s5 := soft_blk GN.out.rs 5
  have r6 := cell_blk GN.out.rs 6 (v := .int .i64 0) rfl
  have s6 := soft_blk GN.out.rs 6
  have r7 := cell_blk GN.out.rs 7 (v := .int .i64 0) rfl
  have s7 := soft_blk GN.out.rs 7
  have r8 := cell_blk GN.out.rs 8 (v := .int .i64 0) rfl
  have s8 := soft_blk GN.out.rs 8
  go_wp2_with fail
  have SA := set_all GN.out.rs (.int .i64 2) (.int .i64 v1) (.int .i64 v2) (.bool pb) (.string kb) (.slice none 0 0) (.int .i64 0) (.int .i64 0) (.int .i64 0)
  have KF := GN.out.kept.trans SA.2 (fun j hj z => by have z : j = w.heap.size + 1 := z; omega)
  refine bodyPost_ret (results_cell_row rfl _ _ (w.heap.size + 1) 39 #[.int .i64 2, .int .i64 v1, .int .i64 v2, .bool pb, .string kb, .slice none 0 0, .int .i64 0, .int .i64 0, .int .i64 0] (0, 0) _ rfl SA.1 Tryz.underlying39 rfl (by kernel_rfl)) rfl ?_
  exact ⟨rfl, KF⟩
end Go.Proofs.YtbangbobfeflcaaGreatDoor
