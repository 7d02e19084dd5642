import Derived.Test.YtbangbobfeflcaaGreatDoorKOf
namespace Go.Proofs.YtbangbobfeflcaaGreatDoor
open Go.RowKit 

set_option maxRecDepth 100000 in
set_option maxHeartbeats 2000000 in
theorem hEqual {w : World} {kind client op st tx ty : Int} {put : Bool} {key : ByteArray} {va va' : Option Addr} {vn vc vc' : Nat} {val : List Nat} (R1 : Reads w va vn vc val) (R2 : Reads w va' vn vc' val) : Calls Tryz.prog 17 #[.agg #[.int .i64 kind, .int .i64 client, .int .i64 op, .bool put, .string key, .slice va vn vc, .int .i64 st, .int .i64 tx, .int .i64 ty], .agg #[.int .i64 kind, .int .i64 client, .int .i64 op, .bool put, .string key, .slice va' vn vc', .int .i64 st, .int .i64 tx, .int .i64 ty]] w fun o w' => o = .returned (.bool true) ∧ Kept (fun _ => False) w w' := by
  have C28 : Hid (∀ V, Kept (fun _ => False) w V → Calls Tryz.prog 28 #[.slice va vn vc, .slice va' vn vc'] V fun o w' => o = .returned (.bool true) ∧ Kept (fun _ => False) V w') := fun V K => by
    have q := hSame (Reads.kept K R1 (fun _ _ z => z)) (Reads.kept K R2 (fun _ _ z => z))
    rw [decide_eq_true rfl] at q
    exact q
  clear R1 R2
  have HA : Hid (Kept (fun _ => False) w ((w.alloc (.cells #[.int .i64 kind, .int .i64 client, .int .i64 op, .bool put, .string key, .slice va vn vc, .int .i64 st, .int .i64 tx, .int .i64 ty] 39)).alloc (.cells #[.int .i64 kind, .int .i64 client, .int .i64 op, .bool put, .string key, .slice va' vn vc', .int .i64 st, .int .i64 tx, .int .i64 ty] 39)) ∧ ((w.alloc (.cells #[.int .i64 kind, .int .i64 client, .int .i64 op, .bool put, .string key, .slice va vn vc, .int .i64 st, .int .i64 tx, .int .i64 ty] 39)).alloc (.cells #[.int .i64 kind, .int .i64 client, .int .i64 op, .bool put, .string key, .slice va' vn vc', .int .i64 st, .int .i64 tx, .int .i64 ty] 39)).heap[w.heap.size]? = some (.cells #[.int .i64 kind, .int .i64 client, .int .i64 op, .bool put, .string key, .slice va vn vc, .int .i64 st, .int .i64 tx, .int .i64 ty] 39 (0, 0)) ∧ ((w.alloc (.cells #[.int .i64 kind, .int .i64 client, .int .i64 op, .bool put, .string key, .slice va vn vc, .int .i64 st, .int .i64 tx, .int .i64 ty] 39)).alloc (.cells #[.int .i64 kind, .int .i64 client, .int .i64 op, .bool put, .string key, .slice va' vn vc', .int .i64 st, .int .i64 tx, .int .i64 ty] 39)).heap[w.heap.size + 1]? = some (.cells #[.int .i64 kind, .int .i64 client, .int .i64 op, .bool put, .string key, .slice va' vn vc', .int .i64 st, .int .i64 tx, .int .i64 ty] 39 (0, 0))) := ⟨((Kept.refl _ _).alloc _).alloc _, alloc_old _ (alloc_new _ _), by
    have q := alloc_new (w.alloc (.cells #[.int .i64 kind, .int .i64 client, .int .i64 op, .bool put, .string key, .slice va vn vc, .int .i64 st, .int .i64 tx, .int .i64 ty] 39)) (.cells #[.int .i64 kind, .int .i64 client, .int .i64 op, .bool put, .string key, .slice va' vn vc', .int .i64 st, .int .i64 tx, .int .i64 ty] 39)
    rw [alloc_size] at q
    exact q⟩
  go_enter Tryz.func17, Tryz.ntmps17
  go_wp2_with fail
  refine (C28.out _ HA.out.1).mono ?_
  rintro o w3 ⟨rfl, K3⟩
  have HB : Hid (Kept (fun _ => False) w w3) := HA.out.1.trans K3 (fun _ _ z => z)
  have b1 := K3.get HA.out.2.1 (fun z => z)
  have b2 := K3.get HA.out.2.2 (fun z => z)
  have c1 := cell_blk b1 6 (v := .int .i64 st) rfl
  have c2 := cell_blk b1 7 (v := .int .i64 tx) rfl
  have c3 := cell_blk b1 8 (v := .int .i64 ty) rfl
  have d1 := cell_blk b2 6 (v := .int .i64 st) rfl
  have d2 := cell_blk b2 7 (v := .int .i64 tx) rfl
  have d3 := cell_blk b2 8 (v := .int .i64 ty) rfl
  clear K3 HA C28 b1 b2
  go_wp2_with fail
  go_ret
  exact ⟨rfl, HB.out⟩
end Go.Proofs.YtbangbobfeflcaaGreatDoor
