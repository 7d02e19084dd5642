import Derived.Test.YtojfnehdanhgiaaSend
namespace Go.Proofs.Ytojfnehdanhgiaa
open Go.RowKit
theorem size77 : (Try.prog.info? 77).map (·.size) = some 5 := by kernel_rfl
theorem step_callv {ops : Array Oper} {o : Oper} {a : Act} {K : Act → World → Prop} {Q : Exit → Act → World → Prop} {E : Prop} (w : World) (hgd : o.guard = none) (t : Operand) (f : FuncId) (args : List Operand) (ats : Array TypeId)
    (ho : o.op = .call { callee := .value t, args := args.toArray, argTypes := ats }) (ht : a.eval t = .func (.func f) #[] #[]) (vs : List Value) (hv : args.map a.eval = vs)
    (hcf : (callFunc f vs.toArray).run Try.prog w = .ok (.enter f vs.toArray) w) (h : Calls Try.prog f vs.toArray w fun x w' => ∃ v, x = .returned v ∧ K (a.put o.dst v) w') : if Region.wanted o (yielded ops a.tmps) = true then Oper.wp Try.prog o a w K Q else E := by
  have hw : Region.wanted o (yielded ops a.tmps) = true := by simp [Region.wanted, hgd]
  rw [if_pos hw]
  unfold Oper.wp execOp
  simp [ho, resolve, invoke, hv, ht, hcf, Deferred.ofValue]
  refine h.mono ?_
  rintro x w' ⟨v, rfl, hk⟩
  exact hk
theorem enter43 (vs : Array Value) (w : World) : (callFunc 43 vs).run Try.prog w = .ok (.enter 43 vs) w := by kernel_rfl
theorem enter49 (vs : Array Value) (w : World) : (callFunc 49 vs).run Try.prog w = .ok (.enter 49 vs) w := by kernel_rfl
theorem enter50 (vs : Array Value) (w : World) : (callFunc 50 vs).run Try.prog w = .ok (.enter 50 vs) w := by kernel_rfl
theorem enter51 (vs : Array Value) (w : World) : (callFunc 51 vs).run Try.prog w = .ok (.enter 51 vs) w := by kernel_rfl
theorem enter52 (vs : Array Value) (w : World) : (callFunc 52 vs).run Try.prog w = .ok (.enter 52 vs) w := by kernel_rfl
theorem enter53 (vs : Array Value) (w : World) : (callFunc 53 vs).run Try.prog w = .ok (.enter 53 vs) w := by kernel_rfl
theorem index0 (w : World) : (Instr.index 77 (.agg #[.func (.func 49) #[] #[], .func (.func 50) #[] #[], .func (.func 51) #[] #[], .func (.func 52) #[] #[], .func (.func 53) #[] #[]]) (.int .i64 0)).run Try.prog w = .ok (.func (.func 49) #[] #[]) w := by kernel_rfl
theorem index1 (w : World) : (Instr.index 77 (.agg #[.func (.func 49) #[] #[], .func (.func 50) #[] #[], .func (.func 51) #[] #[], .func (.func 52) #[] #[], .func (.func 53) #[] #[]]) (.int .i64 1)).run Try.prog w = .ok (.func (.func 50) #[] #[]) w := by kernel_rfl
theorem index2 (w : World) : (Instr.index 77 (.agg #[.func (.func 49) #[] #[], .func (.func 50) #[] #[], .func (.func 51) #[] #[], .func (.func 52) #[] #[], .func (.func 53) #[] #[]]) (.int .i64 2)).run Try.prog w = .ok (.func (.func 51) #[] #[]) w := by kernel_rfl
theorem index3 (w : World) : (Instr.index 77 (.agg #[.func (.func 49) #[] #[], .func (.func 50) #[] #[], .func (.func 51) #[] #[], .func (.func 52) #[] #[], .func (.func 53) #[] #[]]) (.int .i64 3)).run Try.prog w = .ok (.func (.func 52) #[] #[]) w := by kernel_rfl
theorem index4 (w : World) : (Instr.index 77 (.agg #[.func (.func 49) #[] #[], .func (.func 50) #[] #[], .func (.func 51) #[] #[], .func (.func 52) #[] #[], .func (.func 53) #[] #[]]) (.int .i64 4)).run Try.prog w = .ok (.func (.func 53) #[] #[]) w := by kernel_rfl
set_option maxRecDepth 100000 in
theorem fates (w : World) : Calls Try.prog 43 #[] w fun x w' => x = .returned (.agg #[.func (.func 49) #[] #[], .func (.func 50) #[] #[], .func (.func 51) #[] #[], .func (.func 52) #[] #[], .func (.func 53) #[] #[]]) ∧ Kept (fun _ => False) w w' := by
  have sf : ∀ (a : Addr) (w : World) (f : FuncId), (store a (.func (.func f) #[] #[])).run Try.prog w = stored Try.prog w a (.func (.func f) #[] #[]) .plain := fun a w f => run_store Try.prog w a (.func (.func f) #[] #[]) .plain rfl
  go_enter Try.func43, Try.ntmps43
  go_wp2_with fail
  (try simp only [Exit.inBlock, Exit.then])
  exact bodyPost_ret (results_cell_row rfl _ _ w.heap.size 77 _ (0, 0) _ rfl (alloc_new _ _) Try.underlying77 rfl size77) rfl ⟨rfl, alloc_kept0 _ _⟩
set_option maxRecDepth 100000 in
set_option maxHeartbeats 1000000 in
theorem become0 (C : Nat) (q : Option Addr) (len cap : Nat) (w : World) (i : Int) (num pat : Int) (P : Value → World → Prop) (c0 : w.cell? ⟨C, 0, none⟩ = some (.slice q len cap)) (hi : hasI i len = true)
    (hc : ∀ W, Kept (fun _ => False) w W → Calls Try.prog 49 #[.pointer (some ⟨C, 0, none⟩), .int .i64 i, .agg #[.int .i64 num, .int .u32 pat]] W fun x w' => ∃ v, x = .returned v ∧ P v w') :
    Calls Try.prog 28 #[.pointer (some ⟨C, 0, none⟩), .int .i64 0, .int .i64 i, .agg #[.int .i64 num, .int .u32 pat]] w fun x w' => ∃ v, x = .returned v ∧ P v w' := by
  have HC : Hid (∀ W, Kept (fun _ => False) w W → Calls Try.prog 49 #[.pointer (some ⟨C, 0, none⟩), .int .i64 i, .agg #[.int .i64 num, .int .u32 pat]] W fun x w' => ∃ v, x = .returned v ∧ P v w') := hc
  have lC : C < w.heap.size := World.block_lt_of_cell? w _ c0
  clear hc
  obtain ⟨W, hW⟩ : ∃ W, W = w.alloc (.cells #[.int .i64 num, .int .u32 pat] 65) := ⟨_, rfl⟩
  have KW : Hid (Kept (fun _ => False) w W) := by show Kept _ w W; rw [hW]; exact alloc_kept0 w _
  have cW := KW.out.cell c0 (fun q => q)
  have bW : W.heap[w.heap.size]? = some (.cells #[.int .i64 num, .int .u32 pat] 65 (0, 0)) := by rw [hW]; exact alloc_new _ _
  have m0 := cell_blk bW 0 (v := .int .i64 num) rfl
  have m1 := cell_blk bW 1 (v := .int .u32 pat) rfl
  have EW : Hid (W = w.alloc (.cells #[.int .i64 num, .int .u32 pat] 65)) := hW
  clear hW bW
  have ix := index0
  go_enter Try.func28, Try.ntmps28
  go_wp2_with fail
  rw [← EW.out]
  refine (has C q len cap i W cW).mono ?_
  rw [hi]
  rintro x w1 ⟨rfl, rfl⟩
  go_upto_region 5 with fail
  go_region_law
    (first
      | (refine step_call _ (by rfl) 43 [] _ (by rfl) [] (by rfl) (enter43 _ _) ((fates _).mono ?_); rintro x w2 ⟨rfl, K2⟩; refine ⟨_, rfl, ?_⟩
         have n0 := K2.cell m0 (fun q => q)
         have n1 := K2.cell m1 (fun q => q)
         have KK : Hid (Kept (fun _ => False) w w2) := KW.out.drew.trans K2 (fun _ _ q => q)
         clear K2)
      | (refine step_callv _ (by rfl) (.tmp 17) 49 [.tmp 18, .tmp 19, .tmp 20] _ (by rfl) (by rfl) [.pointer (some ⟨C, 0, none⟩), .int .i64 i, .agg #[.int .i64 num, .int .u32 pat]] (by rfl) (enter49 _ _) ((HC.out _ KK.out).mono ?_); rintro x w3 ⟨v3, rfl, F3⟩; refine ⟨_, rfl, ?_⟩
         have HF : Hid (P v3 w3) := F3
         clear F3)
      | fail)
  all_goals go_wp2_with fail
  all_goals go_ret
  all_goals exact ⟨v3, rfl, HF.out⟩
set_option maxRecDepth 100000 in
set_option maxHeartbeats 1000000 in
theorem become1 (C : Nat) (q : Option Addr) (len cap : Nat) (w : World) (i : Int) (num pat : Int) (P : Value → World → Prop) (c0 : w.cell? ⟨C, 0, none⟩ = some (.slice q len cap)) (hi : hasI i len = true)
    (hc : ∀ W, Kept (fun _ => False) w W → Calls Try.prog 50 #[.pointer (some ⟨C, 0, none⟩), .int .i64 i, .agg #[.int .i64 num, .int .u32 pat]] W fun x w' => ∃ v, x = .returned v ∧ P v w') :
    Calls Try.prog 28 #[.pointer (some ⟨C, 0, none⟩), .int .i64 1, .int .i64 i, .agg #[.int .i64 num, .int .u32 pat]] w fun x w' => ∃ v, x = .returned v ∧ P v w' := by
  have HC : Hid (∀ W, Kept (fun _ => False) w W → Calls Try.prog 50 #[.pointer (some ⟨C, 0, none⟩), .int .i64 i, .agg #[.int .i64 num, .int .u32 pat]] W fun x w' => ∃ v, x = .returned v ∧ P v w') := hc
  have lC : C < w.heap.size := World.block_lt_of_cell? w _ c0
  clear hc
  obtain ⟨W, hW⟩ : ∃ W, W = w.alloc (.cells #[.int .i64 num, .int .u32 pat] 65) := ⟨_, rfl⟩
  have KW : Hid (Kept (fun _ => False) w W) := by show Kept _ w W; rw [hW]; exact alloc_kept0 w _
  have cW := KW.out.cell c0 (fun q => q)
  have bW : W.heap[w.heap.size]? = some (.cells #[.int .i64 num, .int .u32 pat] 65 (0, 0)) := by rw [hW]; exact alloc_new _ _
  have m0 := cell_blk bW 0 (v := .int .i64 num) rfl
  have m1 := cell_blk bW 1 (v := .int .u32 pat) rfl
  have EW : Hid (W = w.alloc (.cells #[.int .i64 num, .int .u32 pat] 65)) := hW
  clear hW bW
  have ix := index1
  go_enter Try.func28, Try.ntmps28
  go_wp2_with fail
  rw [← EW.out]
  refine (has C q len cap i W cW).mono ?_
  rw [hi]
  rintro x w1 ⟨rfl, rfl⟩
  go_upto_region 5 with fail
  go_region_law
    (first
      | (refine step_call _ (by rfl) 43 [] _ (by rfl) [] (by rfl) (enter43 _ _) ((fates _).mono ?_); rintro x w2 ⟨rfl, K2⟩; refine ⟨_, rfl, ?_⟩
         have n0 := K2.cell m0 (fun q => q)
         have n1 := K2.cell m1 (fun q => q)
         have KK : Hid (Kept (fun _ => False) w w2) := KW.out.drew.trans K2 (fun _ _ q => q)
         clear K2)
      | (refine step_callv _ (by rfl) (.tmp 17) 50 [.tmp 18, .tmp 19, .tmp 20] _ (by rfl) (by rfl) [.pointer (some ⟨C, 0, none⟩), .int .i64 i, .agg #[.int .i64 num, .int .u32 pat]] (by rfl) (enter50 _ _) ((HC.out _ KK.out).mono ?_); rintro x w3 ⟨v3, rfl, F3⟩; refine ⟨_, rfl, ?_⟩
         have HF : Hid (P v3 w3) := F3
         clear F3)
      | fail)
  all_goals go_wp2_with fail
  all_goals go_ret
  all_goals exact ⟨v3, rfl, HF.out⟩
set_option maxRecDepth 100000 in
set_option maxHeartbeats 1000000 in
theorem become2 (C : Nat) (q : Option Addr) (len cap : Nat) (w : World) (i : Int) (num pat : Int) (P : Value → World → Prop) (c0 : w.cell? ⟨C, 0, none⟩ = some (.slice q len cap)) (hi : hasI i len = true)
    (hc : ∀ W, Kept (fun _ => False) w W → Calls Try.prog 51 #[.pointer (some ⟨C, 0, none⟩), .int .i64 i, .agg #[.int .i64 num, .int .u32 pat]] W fun x w' => ∃ v, x = .returned v ∧ P v w') :
    Calls Try.prog 28 #[.pointer (some ⟨C, 0, none⟩), .int .i64 2, .int .i64 i, .agg #[.int .i64 num, .int .u32 pat]] w fun x w' => ∃ v, x = .returned v ∧ P v w' := by
  have HC : Hid (∀ W, Kept (fun _ => False) w W → Calls Try.prog 51 #[.pointer (some ⟨C, 0, none⟩), .int .i64 i, .agg #[.int .i64 num, .int .u32 pat]] W fun x w' => ∃ v, x = .returned v ∧ P v w') := hc
  have lC : C < w.heap.size := World.block_lt_of_cell? w _ c0
  clear hc
  obtain ⟨W, hW⟩ : ∃ W, W = w.alloc (.cells #[.int .i64 num, .int .u32 pat] 65) := ⟨_, rfl⟩
  have KW : Hid (Kept (fun _ => False) w W) := by show Kept _ w W; rw [hW]; exact alloc_kept0 w _
  have cW := KW.out.cell c0 (fun q => q)
  have bW : W.heap[w.heap.size]? = some (.cells #[.int .i64 num, .int .u32 pat] 65 (0, 0)) := by rw [hW]; exact alloc_new _ _
  have m0 := cell_blk bW 0 (v := .int .i64 num) rfl
  have m1 := cell_blk bW 1 (v := .int .u32 pat) rfl
  have EW : Hid (W = w.alloc (.cells #[.int .i64 num, .int .u32 pat] 65)) := hW
  clear hW bW
  have ix := index2
  go_enter Try.func28, Try.ntmps28
  go_wp2_with fail
  rw [← EW.out]
  refine (has C q len cap i W cW).mono ?_
  rw [hi]
  rintro x w1 ⟨rfl, rfl⟩
  go_upto_region 5 with fail
  go_region_law
    (first
      | (refine step_call _ (by rfl) 43 [] _ (by rfl) [] (by rfl) (enter43 _ _) ((fates _).mono ?_); rintro x w2 ⟨rfl, K2⟩; refine ⟨_, rfl, ?_⟩
         have n0 := K2.cell m0 (fun q => q)
         have n1 := K2.cell m1 (fun q => q)
         have KK : Hid (Kept (fun _ => False) w w2) := KW.out.drew.trans K2 (fun _ _ q => q)
         clear K2)
      | (refine step_callv _ (by rfl) (.tmp 17) 51 [.tmp 18, .tmp 19, .tmp 20] _ (by rfl) (by rfl) [.pointer (some ⟨C, 0, none⟩), .int .i64 i, .agg #[.int .i64 num, .int .u32 pat]] (by rfl) (enter51 _ _) ((HC.out _ KK.out).mono ?_); rintro x w3 ⟨v3, rfl, F3⟩; refine ⟨_, rfl, ?_⟩
         have HF : Hid (P v3 w3) := F3
         clear F3)
      | fail)
  all_goals go_wp2_with fail
  all_goals go_ret
  all_goals exact ⟨v3, rfl, HF.out⟩
set_option maxRecDepth 100000 in
set_option maxHeartbeats 1000000 in
theorem become3 (C : Nat) (q : Option Addr) (len cap : Nat) (w : World) (i : Int) (num pat : Int) (P : Value → World → Prop) (c0 : w.cell? ⟨C, 0, none⟩ = some (.slice q len cap)) (hi : hasI i len = true)
    (hc : ∀ W, Kept (fun _ => False) w W → Calls Try.prog 52 #[.pointer (some ⟨C, 0, none⟩), .int .i64 i, .agg #[.int .i64 num, .int .u32 pat]] W fun x w' => ∃ v, x = .returned v ∧ P v w') :
    Calls Try.prog 28 #[.pointer (some ⟨C, 0, none⟩), .int .i64 3, .int .i64 i, .agg #[.int .i64 num, .int .u32 pat]] w fun x w' => ∃ v, x = .returned v ∧ P v w' := by
  have HC : Hid (∀ W, Kept (fun _ => False) w W → Calls Try.prog 52 #[.pointer (some ⟨C, 0, none⟩), .int .i64 i, .agg #[.int .i64 num, .int .u32 pat]] W fun x w' => ∃ v, x = .returned v ∧ P v w') := hc
  have lC : C < w.heap.size := World.block_lt_of_cell? w _ c0
  clear hc
  obtain ⟨W, hW⟩ : ∃ W, W = w.alloc (.cells #[.int .i64 num, .int .u32 pat] 65) := ⟨_, rfl⟩
  have KW : Hid (Kept (fun _ => False) w W) := by show Kept _ w W; rw [hW]; exact alloc_kept0 w _
  have cW := KW.out.cell c0 (fun q => q)
  have bW : W.heap[w.heap.size]? = some (.cells #[.int .i64 num, .int .u32 pat] 65 (0, 0)) := by rw [hW]; exact alloc_new _ _
  have m0 := cell_blk bW 0 (v := .int .i64 num) rfl
  have m1 := cell_blk bW 1 (v := .int .u32 pat) rfl
  have EW : Hid (W = w.alloc (.cells #[.int .i64 num, .int .u32 pat] 65)) := hW
  clear hW bW
  have ix := index3
  go_enter Try.func28, Try.ntmps28
  go_wp2_with fail
  rw [← EW.out]
  refine (has C q len cap i W cW).mono ?_
  rw [hi]
  rintro x w1 ⟨rfl, rfl⟩
  go_upto_region 5 with fail
  go_region_law
    (first
      | (refine step_call _ (by rfl) 43 [] _ (by rfl) [] (by rfl) (enter43 _ _) ((fates _).mono ?_); rintro x w2 ⟨rfl, K2⟩; refine ⟨_, rfl, ?_⟩
         have n0 := K2.cell m0 (fun q => q)
         have n1 := K2.cell m1 (fun q => q)
         have KK : Hid (Kept (fun _ => False) w w2) := KW.out.drew.trans K2 (fun _ _ q => q)
         clear K2)
      | (refine step_callv _ (by rfl) (.tmp 17) 52 [.tmp 18, .tmp 19, .tmp 20] _ (by rfl) (by rfl) [.pointer (some ⟨C, 0, none⟩), .int .i64 i, .agg #[.int .i64 num, .int .u32 pat]] (by rfl) (enter52 _ _) ((HC.out _ KK.out).mono ?_); rintro x w3 ⟨v3, rfl, F3⟩; refine ⟨_, rfl, ?_⟩
         have HF : Hid (P v3 w3) := F3
         clear F3)
      | fail)
  all_goals go_wp2_with fail
  all_goals go_ret
  all_goals exact ⟨v3, rfl, HF.out⟩
set_option maxRecDepth 100000 in
set_option maxHeartbeats 1000000 in
theorem become4 (C : Nat) (q : Option Addr) (len cap : Nat) (w : World) (i : Int) (num pat : Int) (P : Value → World → Prop) (c0 : w.cell? ⟨C, 0, none⟩ = some (.slice q len cap)) (hi : hasI i len = true)
    (hc : ∀ W, Kept (fun _ => False) w W → Calls Try.prog 53 #[.pointer (some ⟨C, 0, none⟩), .int .i64 i, .agg #[.int .i64 num, .int .u32 pat]] W fun x w' => ∃ v, x = .returned v ∧ P v w') :
    Calls Try.prog 28 #[.pointer (some ⟨C, 0, none⟩), .int .i64 4, .int .i64 i, .agg #[.int .i64 num, .int .u32 pat]] w fun x w' => ∃ v, x = .returned v ∧ P v w' := by
  have HC : Hid (∀ W, Kept (fun _ => False) w W → Calls Try.prog 53 #[.pointer (some ⟨C, 0, none⟩), .int .i64 i, .agg #[.int .i64 num, .int .u32 pat]] W fun x w' => ∃ v, x = .returned v ∧ P v w') := hc
  have lC : C < w.heap.size := World.block_lt_of_cell? w _ c0
  clear hc
  obtain ⟨W, hW⟩ : ∃ W, W = w.alloc (.cells #[.int .i64 num, .int .u32 pat] 65) := ⟨_, rfl⟩
  have KW : Hid (Kept (fun _ => False) w W) := by show Kept _ w W; rw [hW]; exact alloc_kept0 w _
  have cW := KW.out.cell c0 (fun q => q)
  have bW : W.heap[w.heap.size]? = some (.cells #[.int .i64 num, .int .u32 pat] 65 (0, 0)) := by rw [hW]; exact alloc_new _ _
  have m0 := cell_blk bW 0 (v := .int .i64 num) rfl
  have m1 := cell_blk bW 1 (v := .int .u32 pat) rfl
  have EW : Hid (W = w.alloc (.cells #[.int .i64 num, .int .u32 pat] 65)) := hW
  clear hW bW
  have ix := index4
  go_enter Try.func28, Try.ntmps28
  go_wp2_with fail
  rw [← EW.out]
  refine (has C q len cap i W cW).mono ?_
  rw [hi]
  rintro x w1 ⟨rfl, rfl⟩
  go_upto_region 5 with fail
  go_region_law
    (first
      | (refine step_call _ (by rfl) 43 [] _ (by rfl) [] (by rfl) (enter43 _ _) ((fates _).mono ?_); rintro x w2 ⟨rfl, K2⟩; refine ⟨_, rfl, ?_⟩
         have n0 := K2.cell m0 (fun q => q)
         have n1 := K2.cell m1 (fun q => q)
         have KK : Hid (Kept (fun _ => False) w w2) := KW.out.drew.trans K2 (fun _ _ q => q)
         clear K2)
      | (refine step_callv _ (by rfl) (.tmp 17) 53 [.tmp 18, .tmp 19, .tmp 20] _ (by rfl) (by rfl) [.pointer (some ⟨C, 0, none⟩), .int .i64 i, .agg #[.int .i64 num, .int .u32 pat]] (by rfl) (enter53 _ _) ((HC.out _ KK.out).mono ?_); rintro x w3 ⟨v3, rfl, F3⟩; refine ⟨_, rfl, ?_⟩
         have HF : Hid (P v3 w3) := F3
         clear F3)
      | fail)
  all_goals go_wp2_with fail
  all_goals go_ret
  all_goals exact ⟨v3, rfl, HF.out⟩
set_option maxRecDepth 100000 in
theorem become_none (C : Nat) (q : Option Addr) (len cap : Nat) (w : World) (which i : Int) (num pat : Int) (c0 : w.cell? ⟨C, 0, none⟩ = some (.slice q len cap)) (hi : hasI i len = false) :
    Calls Try.prog 28 #[.pointer (some ⟨C, 0, none⟩), .int .i64 which, .int .i64 i, .agg #[.int .i64 num, .int .u32 pat]] w fun x w' => x = .returned (.int .i64 50) ∧ Kept (fun _ => False) w w' := by
  have cW := (alloc_kept0 w (.cells #[.int .i64 num, .int .u32 pat] 65)).cell c0 (fun q => q)
  go_enter Try.func28, Try.ntmps28
  go_wp2_with fail
  refine (has C q len cap i _ cW).mono ?_
  rw [hi]
  rintro x w1 ⟨rfl, rfl⟩
  go_wp2_with fail
  go_ret
  exact ⟨rfl, alloc_kept0 _ _⟩
set_option maxRecDepth 100000 in
theorem become_nil (w : World) (which i : Int) (num pat : Int) :
    Calls Try.prog 28 #[.pointer none, .int .i64 which, .int .i64 i, .agg #[.int .i64 num, .int .u32 pat]] w fun x w' => x = .returned (.int .i64 0) ∧ Kept (fun _ => False) w w' := by
  go_enter Try.func28, Try.ntmps28
  go_wp2_with fail
  go_ret
  exact ⟨rfl, alloc_kept0 _ _⟩
end Go.Proofs.Ytojfnehdanhgiaa
