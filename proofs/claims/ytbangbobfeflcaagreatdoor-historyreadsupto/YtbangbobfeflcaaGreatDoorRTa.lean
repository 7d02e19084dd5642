import Derived.Test.YtbangbobfeflcaaGreatDoorRWo
namespace Go.Proofs.YtbangbobfeflcaaGreatDoor
open Go.RowKit 

set_option maxRecDepth 100000 in
theorem hTagD (s : ByteArray) (hs : s.size ≤ 1000000000) (w : World) : Calls Tryz.prog 70 #[.string s] w fun o w' => ∃ x y e : Int, o = .returned (.agg #[.int .i64 x, .int .i64 y]) ∧ TPar s.data.toList x y e ∧ Kept (fun _ => False) w w' := by
  have K0 : Hid (Kept (fun _ => False) w (w.alloc (Obj.cells #[.int .i64 0, .int .i64 0] 37))) := (Kept.refl _ _).alloc _
  have T0 : Hid ((w.alloc (Obj.cells #[.int .i64 0, .int .i64 0] 37)).heap[w.heap.size]? = some (.cells #[.int .i64 0, .int .i64 0] 37 (0, 0))) := alloc_new _ _
  have CP : Hid (∀ U, Calls Tryz.prog 94 #[.string s] U fun x w' => ∃ p q e, x = .returned (.tuple #[.agg #[.int .i64 p, .int .i64 q], .int .i64 e]) ∧ TPar s.data.toList p q e ∧ Below U.heap.size U w') := fun U => rParse s U (by omega)
  clear hs
  go_enter Tryz.func70, Tryz.ntmps70
  go_wp2_with fail
  refine (CP.out _).mono ?_
  rintro o w1 ⟨x, y, e, rfl, TP', B1⟩
  have TP : Hid (TPar s.data.toList x y e) := TP'
  have J1 := kept_below B1
  have K1 : Hid (Kept (fun _ => False) w (w1.alloc (Obj.cells #[.int .i64 x, .int .i64 y] 37))) := (K0.out.trans J1 (fun _ _ z => z)).alloc _
  have T1 : Hid ((w1.alloc (Obj.cells #[.int .i64 x, .int .i64 y] 37)).heap[w.heap.size]? = some (.cells #[.int .i64 0, .int .i64 0] 37 (0, 0))) := alloc_old _ (J1.get T0.out (fun z => z))
  clear B1 J1 K0 T0 CP TP'
  have d0 := cell_blk T1.out 0 (v := .int .i64 0) rfl
  have d1 := cell_blk T1.out 1 (v := .int .i64 0) rfl
  have s0 := soft_blk T1.out 0
  have s1 := soft_blk T1.out 1
  go_wp2_with fail
  have G : (((w1.alloc (Obj.cells #[.int .i64 x, .int .i64 y] 37)).setCell ⟨w.heap.size, 0, none⟩ (.int .i64 x)).setCell ⟨w.heap.size, 1, none⟩ (.int .i64 y)).heap[w.heap.size]? = some (.cells #[.int .i64 x, .int .i64 y] 37 (0, 0)) := by
    have a := set_heap T1.out 0 (.int .i64 x)
    have b := set_heap a 1 (.int .i64 y)
    exact b
  refine bodyPost_ret (results_cell_row rfl _ _ w.heap.size 37 #[.int .i64 x, .int .i64 y] (0, 0) _ rfl G Tryz.underlying37 rfl (by kernel_rfl)) rfl ?_
  exact ⟨x, y, e, rfl, TP.out, (K1.out.setCell (p := ⟨w.heap.size, 0, none⟩) (fun z => absurd z (Nat.lt_irrefl _)) _).setCell (p := ⟨w.heap.size, 1, none⟩) (fun z => absurd z (Nat.lt_irrefl _)) _⟩
end Go.Proofs.YtbangbobfeflcaaGreatDoor
