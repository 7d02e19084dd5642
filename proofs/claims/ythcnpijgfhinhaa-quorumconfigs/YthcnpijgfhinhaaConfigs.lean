import Derived.Test.YthcnpijgfhinhaaRefNum
namespace Go.Proofs.Ythcnpijgfhinhaa
open Go.RowKit

/-- Where the law stands: its config lies in a block of its own. -/
structure Cfg (w wr : World) (N K D : Int) : Prop where
  bel : Below w.heap.size w wr
  blk : wr.heap[w.heap.size]? = some (.cells #[.int .i64 N, .int .i64 K, .int .i64 D] 23 (0, 0))
theorem Cfg.start (w : World) (N K D : Int) : Cfg w (w.alloc (Obj.cells #[.int .i64 N, .int .i64 K, .int .i64 D] 23)) N K D := ⟨(Below.refl _ _).alloc (Nat.le_refl _) _, heap_alloc_new _ _⟩
theorem Cfg.by {w wr w' : World} {N K D : Int} (c : Cfg w wr N K D) (B : Below wr.heap.size wr w') : Cfg w w' N K D := ⟨c.bel.trans (B.mono c.bel.size), (B.block _ (block_lt c.blk)).trans c.blk⟩
theorem Cfg.cells {w wr : World} {N K D : Int} (c : Cfg w wr N K D) : wr.cell? ⟨w.heap.size, 0, none⟩ = some (.int .i64 N) ∧ wr.cell? ⟨w.heap.size, 1, none⟩ = some (.int .i64 K) ∧ wr.cell? ⟨w.heap.size, 2, none⟩ = some (.int .i64 D) := ⟨cell_blk c.blk 0 rfl, cell_blk c.blk 1 rfl, cell_blk c.blk 2 rfl⟩
set_option maxRecDepth 100000 in
set_option maxHeartbeats 2000000 in
theorem configs_ok (N K D : Int) (w : World) (h : okC N K D) : Calls Try.prog 5 #[.agg #[.int .i64 N, .int .i64 K, .int .i64 D]] w fun x w' => x = .returned (.bool true) ∧ Below w.heap.size w w' := by
  have H : Hid (okC N K D) := h
  have ec : Hid (errC N K D = 0) := errC_ok h
  clear h
  have C0 : Hid (Cfg w (w.alloc (Obj.cells #[.int .i64 N, .int .i64 K, .int .i64 D] 23)) N K D) := Cfg.start w N K D
  go_enter Try.func5, Try.ntmps5
  go_wp2_with fail
  refine (size_ok N K D _ H.out).mono ?_
  rintro e w1 ⟨rfl, b1⟩
  have C1 : Hid (Cfg w w1 N K D) := C0.out.by b1
  clear b1 C0
  obtain ⟨q0, q1, q2⟩ := C1.out.cells
  go_wp2_with fail
  refine (down_ok N K D _ H.out).mono ?_
  rintro e w2 ⟨rfl, b1⟩
  have C2 : Hid (Cfg w w2 N K D) := C1.out.by b1
  clear b1 C1 q0 q1 q2
  obtain ⟨q0, q1, q2⟩ := C2.out.cells
  go_wp2_with fail
  refine (common_ok N K D _ H.out).mono ?_
  rintro e w3 ⟨rfl, b1⟩
  have C3 : Hid (Cfg w w3 N K D) := C2.out.by b1
  clear b1 C2 q0 q1 q2
  obtain ⟨q0, q1, q2⟩ := C3.out.cells
  go_wp2_with fail
  refine (rSize_ok N K D _ H.out).mono ?_
  rintro e w4 ⟨rfl, b1⟩
  have C4 : Hid (Cfg w w4 N K D) := C3.out.by b1
  clear b1 C3 q0 q1 q2
  obtain ⟨q0, q1, q2⟩ := C4.out.cells
  go_wp2_with fail
  refine (rDown_ok N K D _ H.out).mono ?_
  rintro e w5 ⟨rfl, b1⟩
  have C5 : Hid (Cfg w w5 N K D) := C4.out.by b1
  clear b1 C4 q0 q1 q2
  obtain ⟨q0, q1, q2⟩ := C5.out.cells
  go_wp2_with fail
  refine (rCommon_ok N K D _ H.out).mono ?_
  rintro e w6 ⟨rfl, b1⟩
  have C6 : Hid (Cfg w w6 N K D) := C5.out.by b1
  clear b1 C5 q0 q1 q2
  obtain ⟨q0, q1, q2⟩ := C6.out.cells
  have ST : Hid (Cfg w w6.drew N K D) := C6.out.by ((Below.refl _ _).drew)
  clear C6
  go_upto_region 7 with fail
  go_region_held3 (fun w' => w'.cell? ⟨w.heap.size, 0, none⟩ = some (.int .i64 N) ∧ w'.cell? ⟨w.heap.size, 1, none⟩ = some (.int .i64 K) ∧ w'.cell? ⟨w.heap.size, 2, none⟩ = some (.int .i64 D)) (go_keep)
    (first | (go_at_call 26; refine (check N K D _).mono ?_; rw [ec.out]; rintro x w2 ⟨rfl, B2⟩; have ST2 := ST.out.by B2; clear ST; have ST : Hid (Cfg _ _ _ _ _) := ST2; obtain ⟨q0, q1, q2⟩ := ST2.cells; clear ST2 B2) | (go_at_call 27; refine (rCheck N K D _).mono ?_; rw [ec.out]; rintro x w2 ⟨rfl, B2⟩; have ST2 := ST.out.by B2; clear ST; have ST : Hid (Cfg _ _ _ _ _) := ST2; obtain ⟨q0, q1, q2⟩ := ST2.cells; clear ST2 B2) | (go_at_call 19; refine (taken _).mono ?_; rintro x w2 ⟨rfl, B2⟩; have ST2 := ST.out.by B2; clear ST; have ST : Hid (Cfg _ _ _ _ _) := ST2; obtain ⟨q0, q1, q2⟩ := ST2.cells; clear ST2 B2) | fail)
  all_goals go_wp2_with fail
  all_goals go_ret
  all_goals exact ⟨rfl, ST.out.bel⟩
set_option maxRecDepth 100000 in
set_option maxHeartbeats 2000000 in
theorem configs_not (N K D : Int) (w : World) (h : ¬ okC N K D) : Calls Try.prog 5 #[.agg #[.int .i64 N, .int .i64 K, .int .i64 D]] w fun x w' => x = .returned (.bool true) ∧ Below w.heap.size w w' := by
  have H : Hid (¬ okC N K D) := h
  have ec : Hid (errC N K D = 40) := errC_not h
  clear h
  have C0 : Hid (Cfg w (w.alloc (Obj.cells #[.int .i64 N, .int .i64 K, .int .i64 D] 23)) N K D) := Cfg.start w N K D
  go_enter Try.func5, Try.ntmps5
  go_wp2_with fail
  refine (size_not N K D _ H.out).mono ?_
  rintro e w1 ⟨rfl, b1⟩
  have C1 : Hid (Cfg w w1 N K D) := C0.out.by b1
  clear b1 C0
  obtain ⟨q0, q1, q2⟩ := C1.out.cells
  go_wp2_with fail
  refine (down_not N K D _ H.out).mono ?_
  rintro e w2 ⟨rfl, b1⟩
  have C2 : Hid (Cfg w w2 N K D) := C1.out.by b1
  clear b1 C1 q0 q1 q2
  obtain ⟨q0, q1, q2⟩ := C2.out.cells
  go_wp2_with fail
  refine (common_not N K D _ H.out).mono ?_
  rintro e w3 ⟨rfl, b1⟩
  have C3 : Hid (Cfg w w3 N K D) := C2.out.by b1
  clear b1 C2 q0 q1 q2
  obtain ⟨q0, q1, q2⟩ := C3.out.cells
  go_wp2_with fail
  refine (rSize_not N K D _ H.out).mono ?_
  rintro e w4 ⟨rfl, b1⟩
  have C4 : Hid (Cfg w w4 N K D) := C3.out.by b1
  clear b1 C3 q0 q1 q2
  obtain ⟨q0, q1, q2⟩ := C4.out.cells
  go_wp2_with fail
  refine (rDown_not N K D _ H.out).mono ?_
  rintro e w5 ⟨rfl, b1⟩
  have C5 : Hid (Cfg w w5 N K D) := C4.out.by b1
  clear b1 C4 q0 q1 q2
  obtain ⟨q0, q1, q2⟩ := C5.out.cells
  go_wp2_with fail
  refine (rCommon_not N K D _ H.out).mono ?_
  rintro e w6 ⟨rfl, b1⟩
  have C6 : Hid (Cfg w w6 N K D) := C5.out.by b1
  clear b1 C5 q0 q1 q2
  obtain ⟨q0, q1, q2⟩ := C6.out.cells
  have ST : Hid (Cfg w w6.drew N K D) := C6.out.by ((Below.refl _ _).drew)
  clear C6
  go_upto_region 7 with fail
  go_region_held3 (fun w' => w'.cell? ⟨w.heap.size, 0, none⟩ = some (.int .i64 N) ∧ w'.cell? ⟨w.heap.size, 1, none⟩ = some (.int .i64 K) ∧ w'.cell? ⟨w.heap.size, 2, none⟩ = some (.int .i64 D)) (go_keep)
    (first | (go_at_call 26; refine (check N K D _).mono ?_; rw [ec.out]; rintro x w2 ⟨rfl, B2⟩; have ST2 := ST.out.by B2; clear ST; have ST : Hid (Cfg _ _ _ _ _) := ST2; obtain ⟨q0, q1, q2⟩ := ST2.cells; clear ST2 B2) | (go_at_call 27; refine (rCheck N K D _).mono ?_; rw [ec.out]; rintro x w2 ⟨rfl, B2⟩; have ST2 := ST.out.by B2; clear ST; have ST : Hid (Cfg _ _ _ _ _) := ST2; obtain ⟨q0, q1, q2⟩ := ST2.cells; clear ST2 B2) | (go_at_call 19; refine (taken _).mono ?_; rintro x w2 ⟨rfl, B2⟩; have ST2 := ST.out.by B2; clear ST; have ST : Hid (Cfg _ _ _ _ _) := ST2; obtain ⟨q0, q1, q2⟩ := ST2.cells; clear ST2 B2) | fail)
  all_goals go_wp2_with fail
  all_goals go_ret
  all_goals exact ⟨rfl, ST.out.bel⟩
end Go.Proofs.Ythcnpijgfhinhaa
