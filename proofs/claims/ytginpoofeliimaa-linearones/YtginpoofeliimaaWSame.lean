import Derived.Test.YtginpoofeliimaaOOne
import Derived.Test.YtginpoofeliimaaNSmall
namespace Go.Proofs.Ytginpoofeliimaa
open Go.RowKit 

set_option maxRecDepth 100000 in
set_option maxHeartbeats 4000000 in
theorem sameCallC {w : World} (cl op : Int) (pu : Bool) (ke : ByteArray) (st fr too : Int) (on : Bool) (tx ty : Int) (vl : List Nat) (va : Option Addr) (vn vc : Nat) (ua : Option Addr) (un uc : Nat) (ra : Reads w va vn vc vl) (rb : Reads w ua un uc vl) : Calls Try.prog 18 #[.agg #[.int .i64 cl, .int .i64 op, .bool pu, .string ke, .slice va vn vc, .int .i64 st, .int .i64 fr, .int .i64 too, .bool on, .int .i64 tx, .int .i64 ty], .agg #[.int .i64 cl, .int .i64 op, .bool pu, .string ke, .slice ua un uc, .int .i64 st, .int .i64 fr, .int .i64 too, .bool on, .int .i64 tx, .int .i64 ty]] w fun o w' => o = .returned (.bool true) ∧ Kept (fun _ => False) w w' := by
  obtain ⟨W, hW⟩ : ∃ W, W = (w.alloc (.cells #[.int .i64 cl, .int .i64 op, .bool pu, .string ke, .slice va vn vc, .int .i64 st, .int .i64 fr, .int .i64 too, .bool on, .int .i64 tx, .int .i64 ty] 33)).alloc (.cells #[.int .i64 cl, .int .i64 op, .bool pu, .string ke, .slice ua un uc, .int .i64 st, .int .i64 fr, .int .i64 too, .bool on, .int .i64 tx, .int .i64 ty] 33) := ⟨_, rfl⟩
  have K : Kept (fun _ => False) w W := by rw [hW]; exact ((Kept.refl _ _).alloc _).alloc _
  have s1 : (convert 29 9 (.slice va vn vc)).run Try.prog W = .ok (.string (str vl)) W := (Reads.kept K ra (fun _ _ z => z)).string
  have s2 : (convert 29 9 (.slice ua un uc)).run Try.prog W = .ok (.string (str vl)) W := (Reads.kept K rb (fun _ _ z => z)).string
  have b1 : W.heap[w.heap.size]? = some (.cells #[.int .i64 cl, .int .i64 op, .bool pu, .string ke, .slice va vn vc, .int .i64 st, .int .i64 fr, .int .i64 too, .bool on, .int .i64 tx, .int .i64 ty] 33 (0, 0)) := by rw [hW]; exact alloc_old _ (alloc_new _ _)
  have b2 : W.heap[w.heap.size + 1]? = some (.cells #[.int .i64 cl, .int .i64 op, .bool pu, .string ke, .slice ua un uc, .int .i64 st, .int .i64 fr, .int .i64 too, .bool on, .int .i64 tx, .int .i64 ty] 33 (0, 0)) := by rw [hW]; exact alloc_new2 _ _ _ _
  obtain ⟨E, hE⟩ : ∃ E, E = w.heap.size := ⟨_, rfl⟩
  rw [← hE] at b1 b2
  have c0 := cell_blk b1 0 (v := .int .i64 cl) rfl
  have c1 := cell_blk b1 1 (v := .int .i64 op) rfl
  have c2 := cell_blk b1 2 (v := .bool pu) rfl
  have c3 := cell_blk b1 3 (v := .string ke) rfl
  have c4 := cell_blk b1 4 (v := .slice va vn vc) rfl
  have c5 := cell_blk b1 5 (v := .int .i64 st) rfl
  have c6 := cell_blk b1 6 (v := .int .i64 fr) rfl
  have c7 := cell_blk b1 7 (v := .int .i64 too) rfl
  have c8 := cell_blk b1 8 (v := .bool on) rfl
  have c9 := cell_blk b1 9 (v := .int .i64 tx) rfl
  have c10 := cell_blk b1 10 (v := .int .i64 ty) rfl
  have d0 := cell_blk b2 0 (v := .int .i64 cl) rfl
  have d1 := cell_blk b2 1 (v := .int .i64 op) rfl
  have d2 := cell_blk b2 2 (v := .bool pu) rfl
  have d3 := cell_blk b2 3 (v := .string ke) rfl
  have d4 := cell_blk b2 4 (v := .slice ua un uc) rfl
  have d5 := cell_blk b2 5 (v := .int .i64 st) rfl
  have d6 := cell_blk b2 6 (v := .int .i64 fr) rfl
  have d7 := cell_blk b2 7 (v := .int .i64 too) rfl
  have d8 := cell_blk b2 8 (v := .bool on) rfl
  have d9 := cell_blk b2 9 (v := .int .i64 tx) rfl
  have d10 := cell_blk b2 10 (v := .int .i64 ty) rfl
  have EH : Hid (W = (w.alloc (.cells #[.int .i64 cl, .int .i64 op, .bool pu, .string ke, .slice va vn vc, .int .i64 st, .int .i64 fr, .int .i64 too, .bool on, .int .i64 tx, .int .i64 ty] 33)).alloc (.cells #[.int .i64 cl, .int .i64 op, .bool pu, .string ke, .slice ua un uc, .int .i64 st, .int .i64 fr, .int .i64 too, .bool on, .int .i64 tx, .int .i64 ty] 33) ∧ E = w.heap.size) := ⟨hW, hE⟩
  have KH : Hid (Kept (fun _ => False) w W) := K
  clear hW K ra rb b1 b2 hE
  go_enter Try.func18, Try.ntmps18
  go_upto_region 1 with fail
  rw [← EH.out.1, ← EH.out.2]
  clear EH
  go_wp2_with fail
  go_ret
  exact ⟨by first | rfl | simp, KH.out⟩
end Go.Proofs.Ytginpoofeliimaa
