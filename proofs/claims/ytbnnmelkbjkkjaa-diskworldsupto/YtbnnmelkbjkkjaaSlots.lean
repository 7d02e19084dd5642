import Derived.Test.YtbnnmelkbjkkjaaFour
import Derived.Test.YtbnnmelkbjkkjaaRead
import Derived.Laws.ResultCell
import Derived.Laws.Rows
namespace Go.Proofs.Ytbnnmelkbjkkjaa
open Go.RowKit

theorem results_row_tmp {P : Program} {fn : Func} {p u : Tmp} {ty : TypeId} (h : fn.results = #[.cell p ty, .tmp u]) (tmps : Array Value) (w : World) (g : Nat) (t : TypeId) (cs : Array Value) (fr : Nat × Nat) (d : TypeDesc)
    (hp : tmps.getD p undef = .pointer (some ⟨g, 0, none⟩)) (hg : w.heap[g]? = some (.cells cs t fr))
    (hu : P.underlying ty = some d) (hd : (match d with | .struct _ | .array _ _ => true | _ => false) = true) (hi : (P.info? ty).map (·.size) = some cs.size) :
    (results fn tmps).run P w = .ok (.tuple #[.agg cs, tmps.getD u undef]) w := by
  rw [results_cell_tmp h, hp]
  simp [asAddr, run_loadVar_row w g t ty cs fr d hg hu hd hi, Result.andThen]
theorem Try.info32 : (Try.prog.info? 32).map (·.size) = some 2 := by kernel_rfl
theorem enter41 (vs : Array Value) (w : World) : (callFunc 41 vs).run Try.prog w = .ok (.enter 41 vs) w := by kernel_rfl
/-- Both slots' bytes, as new memory. -/
structure SlotsAre (w w' : World) (A : AB) (a0 : Option Addr) (n0 c0 : Nat) (a1 : Option Addr) (n1 c1 : Nat) : Prop where
  o0 : w'.ownsRow w.heap.size 5 1 (.slice a0 n0 c0) n0 (cellsOf (A.now 0))
  o1 : w'.ownsRow w.heap.size 5 1 (.slice a1 n1 c1) n1 (cellsOf (A.now 1))
  ne : ∀ k, blockOf a0 = some k → blockOf a1 ≠ some k
  kept : Kept (fun _ => False) w w'
set_option maxRecDepth 100000 in
set_option maxHeartbeats 4000000 in
theorem dSlots (base B : Nat) (d : DK) (w : World) (h : IsD base w B d) (hd : d.dead = false) (ok : d.ab.Ok) :
    Calls Try.prog 26 #[.pointer (some ⟨B, 0, none⟩)] w fun x w' => ∃ a0 n0 c0 a1 n1 c1, x = .returned (.tuple #[.agg #[.slice a0 n0 c0, .slice a1 n1 c1], .int .i64 (d.cur : Int)]) ∧ SlotsAre w w' d.ab a0 n0 c0 a1 n1 c1 := by
  obtain ⟨W, hW⟩ : ∃ W, W = w.alloc (.cells #[.slice none 0 0, .slice none 0 0] 32) := ⟨_, rfl⟩
  have EW : Hid (W = w.alloc (.cells #[.slice none 0 0, .slice none 0 0] 32)) := hW
  have K : Kept (fun _ => False) w W := by rw [hW]; exact alloc_kept0 _ _
  have hB := block_lt h.blk
  have X : Hid (IsD base W B d ∧ d.ab.Ok ∧ Kept (fun _ => False) w W ∧ W.heap[w.heap.size]? = some (.cells #[.slice none 0 0, .slice none 0 0] 32 (0, 0)) ∧ B < w.heap.size) := ⟨h.kept0 K, ok, K, by rw [hW]; exact alloc_new _ _, hB⟩
  have c6 : w.cell? ⟨B, 6, none⟩ = some (.bool false) := by rw [← hd]; exact h.cell 6 rfl
  have nb1 : (⟨B, 4, none⟩ : Addr) ≠ ⟨w.heap.size, 0, none⟩ := fun z => by simp at z
  have nb2 : (⟨B, 4, none⟩ : Addr) ≠ ⟨w.heap.size, 1, none⟩ := fun z => by simp at z
  have nb3 : ¬ B = w.heap.size := by omega
  have nb4 : ¬ w.heap.size = B := by omega
  clear h hd ok hW K
  go_enter Try.func26, Try.ntmps26
  go_upto_region 3 with fail
  rw [← EW.out]
  have e4 : W.cell? ⟨B, 4, none⟩ = some (.int .i64 (d.cur : Int)) := X.out.1.cell 4 rfl
  have KD : Hid (Kept (fun _ => False) W W.drew) := (Kept.refl (fun _ => False) W).drew
  go_region_held3 (fun w' => w'.cell? ⟨B, 4, none⟩ = some (.int .i64 (d.cur : Int))) (first | go_keep)
    (first
      | (go_at_call 41; refine (now base B 2 d.s1 w1 X1.out.1.z1 (X1.out.1.cell 2 rfl) (X1.out.1.cell 3 rfl) X.out.2.1.w1).mono ?_; rintro x w2 ⟨a2, n2, k2, rfl, o2, K2⟩
         have X2 : Hid (w2.ownsRow w1.heap.size 5 1 (.slice a2 n2 k2) n2 (cellsOf (d.ab.now 1)) ∧ Kept (fun _ => False) w1 w2) := ⟨o2, K2⟩
         have h4 : w2.cell? ⟨B, 4, none⟩ = some (.int .i64 (d.cur : Int)) := (X1.out.1.kept0 K2).cell 4 rfl
         have g0 : w2.cell? ⟨w.heap.size, 0, none⟩ = some (.slice none 0 0) := cell_blk (K2.get X1.out.2.2.2 (fun z => z)) 0 rfl
         have g1 : w2.cell? ⟨w.heap.size, 1, none⟩ = some (.slice none 0 0) := cell_blk (K2.get X1.out.2.2.2 (fun z => z)) 1 rfl
         have gs0 : w2.frozen? ⟨w.heap.size, 0, none⟩ = false := soft_blk (K2.get X1.out.2.2.2 (fun z => z)) 0
         have gs1 : w2.frozen? ⟨w.heap.size, 1, none⟩ = false := soft_blk (K2.get X1.out.2.2.2 (fun z => z)) 1
         clear o2 K2)
      | (go_at_call 41; refine (now base B 0 d.s0 W.drew (X.out.1.kept0 KD.out).z0 ((X.out.1.kept0 KD.out).cell 0 rfl) ((X.out.1.kept0 KD.out).cell 1 rfl) X.out.2.1.w0).mono ?_; rintro x w1 ⟨a1, n1, k1, rfl, o1, K1⟩
         have X1 : Hid (IsD base w1 B d ∧ w1.ownsRow W.drew.heap.size 5 1 (.slice a1 n1 k1) n1 (cellsOf (d.ab.now 0)) ∧ Kept (fun _ => False) W w1 ∧ w1.heap[w.heap.size]? = some (.cells #[.slice none 0 0, .slice none 0 0] 32 (0, 0))) := ⟨(X.out.1.kept0 KD.out).kept0 K1, o1, KD.out.trans K1 (fun _ _ z => z), (KD.out.trans K1 (fun _ _ z => z)).get X.out.2.2.2.1 (fun z => z)⟩
         have f4 : w1.cell? ⟨B, 4, none⟩ = some (.int .i64 (d.cur : Int)) := X1.out.1.cell 4 rfl
         clear o1 K1)
      | fail)
  go_wp2_with fail
  have RB : ((w2.setCell ⟨w.heap.size, 0, none⟩ (.slice a1 n1 k1)).setCell ⟨w.heap.size, 1, none⟩ (.slice a2 n2 k2)).heap[w.heap.size]? = some (.cells #[.slice a1 n1 k1, .slice a2 n2 k2] 32 (0, 0)) := set_heap (set_heap (X2.out.2.get X1.out.2.2.2 (fun z => z)) 0 _) 1 _
  (try simp only [Exit.inBlock, Exit.then])
  refine bodyPost_ret (results_row_tmp rfl _ _ w.heap.size 32 _ (0, 0) _ rfl RB Try.underlying32 rfl Try.info32) rfl ?_
  refine ⟨a1, n1, k1, a2, n2, k2, rfl, ?_⟩
  have K2 := X2.out.2
  have KS : Kept (fun k => k = w.heap.size) w2 ((w2.setCell ⟨w.heap.size, 0, none⟩ (.slice a1 n1 k1)).setCell ⟨w.heap.size, 1, none⟩ (.slice a2 n2 k2)) := ((Kept.refl (fun k => k = w.heap.size) w2).setCell (p := ⟨w.heap.size, 0, none⟩) (fun _ => rfl) _).setCell (p := ⟨w.heap.size, 1, none⟩) (fun _ => rfl) _
  have hs : w.heap.size < W.heap.size := block_lt X.out.2.2.2.1
  have hs1 := X1.out.2.2.1.size
  have l1 : ∀ k, blockOf a1 = some k → W.heap.size ≤ k ∧ k < w1.heap.size := fun k hk => own_lt X1.out.2.1 k hk
  have l2 : ∀ k, blockOf a2 = some k → w1.heap.size ≤ k ∧ k < w2.heap.size := fun k hk => own_lt X2.out.1 k hk
  have O1 := KS.owns (K2.owns X1.out.2.1 (fun _ _ z => z)) (fun k hk z => by have z : k = w.heap.size := z; have := l1 k (by rw [← hk]; exact (blockOf_own ..).symm); omega)
  have O2 := KS.owns X2.out.1 (fun k hk z => by have z : k = w.heap.size := z; have := l2 k (by rw [← hk]; exact (blockOf_own ..).symm); omega)
  refine ⟨owns_mono O1 (by rw [drew_size]; omega), owns_mono O2 (by omega), fun k h1 h2 => ?_, ?_⟩
  · have := l1 k h1
    have := l2 k h2
    omega
  · exact ((X.out.2.2.1.trans X1.out.2.2.1 (fun _ _ z => z)).trans K2 (fun _ _ z => z)).trans KS (fun k hk z => by have z : k = w.heap.size := z; omega)
end Go.Proofs.Ytbnnmelkbjkkjaa
