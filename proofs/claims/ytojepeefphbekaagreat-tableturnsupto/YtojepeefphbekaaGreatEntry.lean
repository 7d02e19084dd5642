import Derived.Test.YtojepeefphbekaaGreatBytes
namespace Go.Proofs.YtojepeefphbekaaGreat
open Go.RowKit

theorem Tryz.info40 : (Tryz.prog.info? 40).map (·.size) = some 5 := by kernel_rfl
theorem results_entry {fn : Func} {p : Tmp} (h : fn.results = #[.cell p 40]) (tmps : Array Value) (w : World) (b : Nat) (cs : Array Value) (hz : cs.size = 5) (hp : tmps.getD p undef = .pointer (some ⟨b, 0, none⟩)) (hb : w.heap[b]? = some (.cells cs 40 (0, 0))) : (results fn tmps).run Tryz.prog w = .ok (.agg cs) w :=
  results_cell_row h tmps w b 40 _ (0, 0) _ hp hb Tryz.underlying40 rfl (by rw [Tryz.info40, hz])
theorem three_new (w : World) (o0 o1 o2 : Obj) : (((w.alloc o0).alloc o1).alloc o2).heap[w.heap.size]? = some o0 ∧ (((w.alloc o0).alloc o1).alloc o2).heap[w.heap.size + 1]? = some o1 ∧ (((w.alloc o0).alloc o1).alloc o2).heap[w.heap.size + 2]? = some o2 := by
  have e1 : ((w.alloc o0).alloc o1).heap.size = w.heap.size + 2 := by simp
  have a := heap_alloc_new ((w.alloc o0).alloc o1) o2
  rw [e1] at a
  refine ⟨?_, ?_, a⟩
  · rw [Below.heap_alloc _ _ _ (by simp; omega)]
    exact two0 w o0 o1
  · rw [Below.heap_alloc _ _ _ (by simp)]
    exact two1 w o0 o1
/-- The three boxes of 'entry'. -/
structure EB (w W : World) (f g : Bool) (a : Option Addr) (n c : Nat) (x y : Int) (l : List Nat) : Prop where
  hold : W.heap[w.heap.size]? = some (.cells #[.bool f, .bool g, .slice a n c] 94 (0, 0))
  tag : W.heap[w.heap.size + 1]? = some (.cells #[.int .i64 x, .int .i64 y] 37 (0, 0))
  res : W.heap[w.heap.size + 2]? = some (.cells #[.int .i64 0, .int .i64 0, .bool false, .bool false, .slice none 0 0] 40 (0, 0))
  kept : Kept (fun _ => False) w W
  rd : Reads W a n c l
theorem EB.k0 {w W W' : World} {f g : Bool} {a : Option Addr} {n c : Nat} {x y : Int} {l : List Nat} (h : EB w W f g a n c x y l) (K : Kept (fun _ => False) W W') : EB w W' f g a n c x y l :=
  ⟨K.get h.hold (fun z => z), K.get h.tag (fun z => z), K.get h.res (fun z => z), h.kept.and0 K, h.rd.kept' K (fun _ _ z => z)⟩
set_option maxRecDepth 100000 in
set_option maxHeartbeats 2000000 in
theorem entry (f g : Bool) (a : Option Addr) (n c : Nat) (x y : Int) (l : List Nat) (w : World) (r : Reads w a n c l) (hn : n ≤ 140737488355328) : Calls Tryz.prog 37 #[.agg #[.bool f, .bool g, .slice a n c], .agg #[.int .i64 x, .int .i64 y]] w fun o w' => ∃ p c', o = .returned (.agg #[.int .i64 x, .int .i64 y, .bool f, .bool g, .slice p n c']) ∧ w'.ownsRow w.heap.size 5 1 (.slice p n c') n (cellsOf l) ∧ Kept (fun _ => False) w w' := by
  obtain ⟨W, hW⟩ : ∃ W, W = ((w.alloc (.cells #[.bool f, .bool g, .slice a n c] 94)).alloc (.cells #[.int .i64 x, .int .i64 y] 37)).alloc (.cells #[.int .i64 0, .int .i64 0, .bool false, .bool false, .slice none 0 0] 40) := ⟨_, rfl⟩
  have KZ : Kept (fun _ => False) w W := by rw [hW]; exact (((Kept.refl _ w).alloc _).alloc _).alloc _
  have H : Hid (EB w W f g a n c x y l ∧ n ≤ 140737488355328) := by
    obtain ⟨q1, q2, q3⟩ := three_new w (.cells #[.bool f, .bool g, .slice a n c] 94) (.cells #[.int .i64 x, .int .i64 y] 37) (.cells #[.int .i64 0, .int .i64 0, .bool false, .bool false, .slice none 0 0] 40)
    rw [← hW] at q1 q2 q3
    exact ⟨⟨q1, q2, q3, KZ, r.kept' KZ (fun _ _ z => z)⟩, hn⟩
  have EW : Hid (W = ((w.alloc (.cells #[.bool f, .bool g, .slice a n c] 94)).alloc (.cells #[.int .i64 x, .int .i64 y] 37)).alloc (.cells #[.int .i64 0, .int .i64 0, .bool false, .bool false, .slice none 0 0] 40)) := hW
  clear hW KZ r hn
  go_enter Tryz.func37, Tryz.ntmps37
  go_upto_region 1 with fail
  rw [← EW.out]
  have c0 := cell_blk H.out.1.hold 0 (v := .bool f) rfl
  have c1 := cell_blk H.out.1.hold 1 (v := .bool g) rfl
  have c2 := cell_blk H.out.1.hold 2 (v := .slice a n c) rfl
  have t0 := cell_blk H.out.1.tag 0 (v := .int .i64 x) rfl
  have t1 := cell_blk H.out.1.tag 1 (v := .int .i64 y) rfl
  go_region_held3 (fun w' => w'.cell? ⟨w.heap.size, 0, none⟩ = some (.bool f) ∧ w'.cell? ⟨w.heap.size, 1, none⟩ = some (.bool g) ∧ w'.cell? ⟨w.heap.size, 2, none⟩ = some (.slice a n c) ∧ w'.cell? ⟨w.heap.size + 1, 0, none⟩ = some (.int .i64 x) ∧ w'.cell? ⟨w.heap.size + 1, 1, none⟩ = some (.int .i64 y)) (first | with_reducible exact SK.out | go_keep)
    (first
      | (go_at_call 66; refine (cloneB a n c l _ (H.out.1.rd.kept' ((Kept.refl _ _).drew) (fun _ _ z => z)) H.out.2).mono ?_; rintro o w2 ⟨p, c', rfl, ow, K2⟩
         have H2 : Hid (EB w w2 f g a n c x y l ∧ w2.ownsRow W.heap.size 5 1 (.slice p n c') n (cellsOf l)) := ⟨H.out.1.k0 (((Kept.refl _ _).drew).and0 K2), ow⟩
         have c0 := cell_blk H2.out.1.hold 0 (v := .bool f) rfl
         have c1 := cell_blk H2.out.1.hold 1 (v := .bool g) rfl
         have c2 := cell_blk H2.out.1.hold 2 (v := .slice a n c) rfl
         have t0 := cell_blk H2.out.1.tag 0 (v := .int .i64 x) rfl
         have t1 := cell_blk H2.out.1.tag 1 (v := .int .i64 y) rfl
         have r0 := cell_blk H2.out.1.res 0 (v := .int .i64 0) rfl
         have r1 := cell_blk H2.out.1.res 1 (v := .int .i64 0) rfl
         have r2 := cell_blk H2.out.1.res 2 (v := .bool false) rfl
         have r3 := cell_blk H2.out.1.res 3 (v := .bool false) rfl
         have r4 := cell_blk H2.out.1.res 4 (v := .slice none 0 0) rfl
         have s0 := soft_blk H2.out.1.res 0
         have s1 := soft_blk H2.out.1.res 1
         have s2 := soft_blk H2.out.1.res 2
         have s3 := soft_blk H2.out.1.res 3
         have s4 := soft_blk H2.out.1.res 4
         have KSH : Hid (Kept (fun k => k = w.heap.size + 2) w2 (((((w2.setCell ⟨w.heap.size + 2, 0, none⟩ (.int .i64 x)).setCell ⟨w.heap.size + 2, 1, none⟩ (.int .i64 y)).setCell ⟨w.heap.size + 2, 2, none⟩ (.bool f)).setCell ⟨w.heap.size + 2, 3, none⟩ (.bool g)).setCell ⟨w.heap.size + 2, 4, none⟩ (.slice p n c'))) := (((((Kept.refl (fun k => k = w.heap.size + 2) w2).setCell (p := ⟨w.heap.size + 2, 0, none⟩) (fun _ => rfl) _).setCell (p := ⟨w.heap.size + 2, 1, none⟩) (fun _ => rfl) _).setCell (p := ⟨w.heap.size + 2, 2, none⟩) (fun _ => rfl) _).setCell (p := ⟨w.heap.size + 2, 3, none⟩) (fun _ => rfl) _).setCell (p := ⟨w.heap.size + 2, 4, none⟩) (fun _ => rfl) _
         have SK : Hid ((((((w2.setCell ⟨w.heap.size + 1 + 1, 0, none⟩ (.int .i64 x)).setCell ⟨w.heap.size + 1 + 1, 1, none⟩ (.int .i64 y)).setCell ⟨w.heap.size + 1 + 1, 2, none⟩ (.bool f)).setCell ⟨w.heap.size + 1 + 1, 3, none⟩ (.bool g)).setCell ⟨w.heap.size + 1 + 1, 4, none⟩ (.slice p n c')).cell? ⟨w.heap.size, 0, none⟩ = some (.bool f) ∧ (((((w2.setCell ⟨w.heap.size + 1 + 1, 0, none⟩ (.int .i64 x)).setCell ⟨w.heap.size + 1 + 1, 1, none⟩ (.int .i64 y)).setCell ⟨w.heap.size + 1 + 1, 2, none⟩ (.bool f)).setCell ⟨w.heap.size + 1 + 1, 3, none⟩ (.bool g)).setCell ⟨w.heap.size + 1 + 1, 4, none⟩ (.slice p n c')).cell? ⟨w.heap.size, 1, none⟩ = some (.bool g) ∧ (((((w2.setCell ⟨w.heap.size + 1 + 1, 0, none⟩ (.int .i64 x)).setCell ⟨w.heap.size + 1 + 1, 1, none⟩ (.int .i64 y)).setCell ⟨w.heap.size + 1 + 1, 2, none⟩ (.bool f)).setCell ⟨w.heap.size + 1 + 1, 3, none⟩ (.bool g)).setCell ⟨w.heap.size + 1 + 1, 4, none⟩ (.slice p n c')).cell? ⟨w.heap.size, 2, none⟩ = some (.slice a n c) ∧ (((((w2.setCell ⟨w.heap.size + 1 + 1, 0, none⟩ (.int .i64 x)).setCell ⟨w.heap.size + 1 + 1, 1, none⟩ (.int .i64 y)).setCell ⟨w.heap.size + 1 + 1, 2, none⟩ (.bool f)).setCell ⟨w.heap.size + 1 + 1, 3, none⟩ (.bool g)).setCell ⟨w.heap.size + 1 + 1, 4, none⟩ (.slice p n c')).cell? ⟨w.heap.size + 1, 0, none⟩ = some (.int .i64 x) ∧ (((((w2.setCell ⟨w.heap.size + 1 + 1, 0, none⟩ (.int .i64 x)).setCell ⟨w.heap.size + 1 + 1, 1, none⟩ (.int .i64 y)).setCell ⟨w.heap.size + 1 + 1, 2, none⟩ (.bool f)).setCell ⟨w.heap.size + 1 + 1, 3, none⟩ (.bool g)).setCell ⟨w.heap.size + 1 + 1, 4, none⟩ (.slice p n c')).cell? ⟨w.heap.size + 1, 1, none⟩ = some (.int .i64 y)) := ⟨KSH.out.cell c0 (by show ¬ w.heap.size = w.heap.size + 2; omega), KSH.out.cell c1 (by show ¬ w.heap.size = w.heap.size + 2; omega), KSH.out.cell c2 (by show ¬ w.heap.size = w.heap.size + 2; omega), KSH.out.cell t0 (by show ¬ w.heap.size + 1 = w.heap.size + 2; omega), KSH.out.cell t1 (by show ¬ w.heap.size + 1 = w.heap.size + 2; omega)⟩
         clear K2 ow)
      | fail)
  go_wp2_with fail
  have KS := KSH.out
  refine bodyPost_ret (results_entry rfl _ _ _ #[.int .i64 x, .int .i64 y, .bool f, .bool g, .slice p n c'] rfl rfl (heap_set (heap_set (heap_set (heap_set (heap_set H2.out.1.res 0 _) 1 _) 2 _) 3 _) 4 _)) rfl ⟨p, c', rfl, ?_, ?_⟩
  · have sz := block_lt H.out.1.res
    refine owns_mono (KS.owns H2.out.2 (fun k hk z => ?_)) H.out.1.kept.size
    have z : k = w.heap.size + 2 := z
    have q := own_lt H2.out.2 k (by rw [← hk]; exact (blockOf_own ..).symm)
    omega
  · exact H2.out.1.kept.trans KS (fun j hj z => by have z : j = w.heap.size + 2 := z; omega)
end Go.Proofs.YtojepeefphbekaaGreat
