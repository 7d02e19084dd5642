import Derived.Test.YtojepeefphbekaaGreatPWouldRJ
import Derived.Test.YtojepeefphbekaaGreatUpdt
namespace Go.Proofs.YtojepeefphbekaaGreat
open Go.RowKit 

theorem cellsOf_snoc (l : List Nat) : cellsOf (l ++ [90]) = cellsOf l ++ [.int .u8 90] := by simp [cellsOf]
theorem src_90 {w : World} {b : Nat} (h : w.heap[b]? = some (.cells #[.int .u8 90] 5 (0, 0))) : Src Tryz.prog 1 38 (.slice (some ⟨b, 0, none⟩) 1 1) 1 [.int .u8 90] w :=
  Src.ofSlice w Tryz.underlying38 ⟨b, 0, none⟩ 1 1 [.int .u8 90] rfl (fun j u hj => by
    rw [Addr.add_none, Nat.zero_add, cell_of_row w b j _ 5 (0, 0) h]
    simpa using hj) (fun v hv => by simp at hv; rw [hv]; rfl)
theorem slice_to {w : World} {base : Nat} {a : Option Addr} {len cap : Nat} {xs : List Value} (h : w.ownsRow base 5 1 (.slice a len cap) len xs) (mn : Nat) (hm : mn ≤ len) (W : World) : (Instr.slice 38 (.slice a len cap) none (some (.int .i64 (mn : Int))) none).run Tryz.prog W = .ok (.slice a mn cap) W := by
  rcases h.2 with ⟨e0, e1⟩ | ⟨g, cap', cur, e0, _, _, h1, h2, _⟩
  · simp at e0
    obtain ⟨rfl, rfl, rfl⟩ := e0
    have : mn = 0 := by omega
    subst this
    simp [Instr.slice, Instr.sliceBounds, Instr.sliceBound, asIntOf, run_underlying Tryz.underlying38]
  · simp at e0
    obtain ⟨rfl, rfl⟩ := e0
    unfold maxLen at h2
    have h3 : mn ≤ cap := by omega
    simp [Instr.slice, Instr.sliceBounds, Instr.sliceBound, asIntOf, run_underlying Tryz.underlying38, h3]
    intro _
    rw [Addr.add_none]
set_option maxRecDepth 100000 in
set_option maxHeartbeats 8000000 in
/-- roomy. -/
theorem lRoomy (kd : Int) (key : ByteArray) (x y : Int) (fin has : Bool) (a : Option Addr) (n c : Nat) (l : List Nat) (w : World) (r : Reads w a n c l) (hn : n + 1 ≤ 140737488355328) : Calls Tryz.prog 71 #[.agg #[.int .i64 kd, .string key, .int .i64 x, .int .i64 y, .bool fin, .bool has, .slice a n c]] w fun o w' => ∃ q k, o = .returned (.agg #[.int .i64 kd, .string key, .int .i64 x, .int .i64 y, .bool fin, .bool has, .slice q n k]) ∧ Hid (w'.ownsRow w.heap.size 5 1 (.slice q (n + 1) k) (n + 1) (cellsOf (l ++ [90])) ∧ Kept (fun _ => False) w w') := by
  obtain ⟨W, hW⟩ : ∃ W, W = (w.alloc (.cells #[.int .i64 kd, .string key, .int .i64 x, .int .i64 y, .bool fin, .bool has, .slice a n c] 44)).alloc (.cells #[.int .i64 0, .string (ByteArray.mk #[]), .int .i64 0, .int .i64 0, .bool false, .bool false, .slice none 0 0] 44) := ⟨_, rfl⟩
  have KZ : Kept (fun _ => False) w W := by rw [hW]; exact ((Kept.refl _ w).alloc _).alloc _
  have H : Hid (W.heap[w.heap.size]? = some (.cells #[.int .i64 kd, .string key, .int .i64 x, .int .i64 y, .bool fin, .bool has, .slice a n c] 44 (0, 0)) ∧ W.heap[w.heap.size + 1]? = some (.cells #[.int .i64 0, .string (ByteArray.mk #[]), .int .i64 0, .int .i64 0, .bool false, .bool false, .slice none 0 0] 44 (0, 0)) ∧ Kept (fun _ => False) w W ∧ Reads W a n c l) := by
    refine ⟨?_, ?_, KZ, r.kept KZ (fun _ _ z => z)⟩
    · rw [hW]; exact two0 _ _ _
    · rw [hW]; exact two1 _ _ _
  have EW : Hid (W = (w.alloc (.cells #[.int .i64 kd, .string key, .int .i64 x, .int .i64 y, .bool fin, .bool has, .slice a n c] 44)).alloc (.cells #[.int .i64 0, .string (ByteArray.mk #[]), .int .i64 0, .int .i64 0, .bool false, .bool false, .slice none 0 0] 44)) := hW
  have BL0 : Hid (0 + n ≤ 140737488355328) := by show 0 + n ≤ _; omega
  have BL : Hid (n + 1 ≤ maxLen ∧ ((n + 1) + (n + 1) / 4 + 192) * 1 ≤ 281474976710656) := by unfold maxLen; exact ⟨by omega, by omega⟩
  have RM : n ≤ c ∧ c ≤ maxLen := ⟨r.room, r.small⟩
  unfold maxLen at RM
  obtain ⟨rm1, rm2⟩ := RM
  clear hW KZ r hn
  go_enter Tryz.func71, Tryz.ntmps71
  go_upto_region 1 with fail
  rw [← EW.out]
  have g0 := cell_blk H.out.1 6 (v := .slice a n c) rfl
  have OB : Hid (w.heap.size ≤ W.heap.size) := H.out.2.2.1.size
  go_upto_region 3 with
    (first
      | (at_builtin; refine wpList_append_bytes _ rfl (.tmp 4) (.tmp 7) rfl w.heap.size (.slice none 0 0) 0 [] rfl (World.ownsRow_nil _ _ _ _) (.slice a n c) n l rfl H.out.2.2.2.src BL0.out OB.out ?_; intro p2 k2 w2 ho hg nr
         rw [Nat.zero_add] at *
         have H2 : Hid (w2.heap[w.heap.size]? = some (.cells #[.int .i64 kd, .string key, .int .i64 x, .int .i64 y, .bool fin, .bool has, .slice a n c] 44 (0, 0)) ∧ w2.heap[w.heap.size + 1]? = some (.cells #[.int .i64 0, .string (ByteArray.mk #[]), .int .i64 0, .int .i64 0, .bool false, .bool false, .slice none 0 0] 44 (0, 0)) ∧ Kept (fun _ => False) w w2 ∧ w2.ownsRow w.heap.size 5 1 (.slice p2 n k2) n (cellsOf l)) := by
           have K2 : Kept (fun _ => False) W w2 := (Kept.refl _ _).grown hg.out (fun k _ z => by cases z)
           have o := ho.out
           rw [List.nil_append] at o
           exact ⟨K2.get H.out.1 (fun z => z), K2.get H.out.2.1 (fun z => z), H.out.2.2.1.and0 K2, o⟩
         clear ho hg nr)
      | fail)
  clear g0
  have c6a := cell_blk H2.out.1 6 (v := .slice a n c) rfl
  have c6b : (w2.alloc (.cells #[.int .u8 90] 5)).cell? ⟨w.heap.size, 6, none⟩ = some (.slice a n c) := ((Kept.refl (fun _ => False) w2).alloc _).cell c6a (fun z => z)
  have V5 : Hid (Kept (fun _ => False) w2 (w2.drew.alloc (.cells #[.int .u8 90] 5)) ∧ (w2.drew.alloc (.cells #[.int .u8 90] 5)).heap[w2.drew.heap.size]? = some (.cells #[.int .u8 90] 5 (0, 0))) := ⟨((Kept.refl _ w2).drew).alloc _, heap_alloc_new _ _⟩
  refine wp_region_held_drew (S := fun _ => True) (by kernel_rfl) trivial (fun hHeld => ?_)
  refine wpAnyH_take (i := 0) (oi := { dst := some 9, op := Op.move (Operand.tmp 3), type := 38, pos := "law.go:95", after := #[], guard := none }) (v := .slice p2 n k2) rfl (by kernel_rfl) (by kernel_rfl) (by kernel_rfl) (fun _ _ _ h => h) (Or.inl ⟨by rfl, ?_⟩) (by assumption) ?_
  · intro w9 hSw
    (try dsimp only at hSw)
    go_simp
  (try simp only [Act.put, List.setIfInBounds_toArray, List.set_cons_zero, List.set_cons_succ])
  refine wpAnyH_take (i := 3) (oi := { dst := some 12, op := Op.fieldAddr 44 (Operand.tmp 1) 2, type := 0, pos := "law.go:95", after := #[], guard := none }) (v := .pointer (some ⟨w.heap.size, 2, none⟩)) rfl (by kernel_rfl) (by kernel_rfl) (by kernel_rfl) (fun _ _ _ h => h) (Or.inl ⟨by rfl, ?_⟩) (by assumption) ?_
  · intro w9 hSw
    (try dsimp only at hSw)
    go_simp
  (try simp only [Act.put, List.setIfInBounds_toArray, List.set_cons_zero, List.set_cons_succ])
  refine wpAnyH_take (i := 4) (oi := { dst := some 13, op := Op.fieldAddr 40 (Operand.tmp 12) 3, type := 0, pos := "law.go:95", after := #[{ on := 3, ground := Ground.data }], guard := none }) (v := .pointer (some ⟨w.heap.size, 6, none⟩)) rfl (by kernel_rfl) (by kernel_rfl) (by kernel_rfl) (fun _ _ _ h => h) (Or.inl ⟨by rfl, ?_⟩) (by assumption) ?_
  · intro w9 hSw
    (try dsimp only at hSw)
    go_simp
  (try simp only [Act.put, List.setIfInBounds_toArray, List.set_cons_zero, List.set_cons_succ])
  refine wpAnyH_ready (rs := [1, 5]) (by kernel_rfl) (by simp) ?_
  refine (AllReadyH.cons (o := { dst := some 10, op := Op.buildSlice 38 1 #[(0, Operand.const (Value.int IntKind.u8 90))], type := 38, pos := "law.go:95", after := #[], guard := none }) rfl (fun K hK => ?_) (AllReadyH.cons (o := { dst := some 14, op := Op.load 38 (Operand.tmp 13), type := 38, pos := "law.go:95", after := #[{ on := 4, ground := Ground.data }], guard := none }) rfl (fun K hK => ?_) AllReadyH.nil))
  · go_simp
    refine hK.out _ _ trivial (fun hHeld => ?_)
    clear hK K
    (try simp only [Act.put, List.setIfInBounds_toArray, List.set_cons_zero, List.set_cons_succ])
    refine wpAnyH_ready (rs := [2, 5]) (by kernel_rfl) (by simp) ?_
    refine (AllReadyH.cons (o := { dst := some 11, op := Op.call { callee := Callee.builtin Builtin.append, args := #[Operand.tmp 9, Operand.tmp 10], argTypes := #[38, 38] }, type := 38, pos := "law.go:95", after := #[{ on := 0, ground := Ground.data }, { on := 1, ground := Ground.data }], guard := none }) rfl (fun K hK => ?_) (AllReadyH.cons (o := { dst := some 14, op := Op.load 38 (Operand.tmp 13), type := 38, pos := "law.go:95", after := #[{ on := 4, ground := Ground.data }], guard := none }) rfl (fun K hK => ?_) AllReadyH.nil))
    · refine step_append_all _ (by rfl) (.tmp 9) (.tmp 10) 38 5 38 _ 1 1 (by rfl) Tryz.underlying38 Tryz.info5 rfl w.heap.size (.slice p2 n k2) n (cellsOf l) (by rfl) (V5.out.1.owns H2.out.2.2.2 (fun _ _ z => z)) _ 1 [.int .u8 90] (by rfl) (src_90 V5.out.2) BL.out.1 BL.out.2 (Nat.le_trans H2.out.2.2.1.size V5.out.1.size) ?_
      intro p9 c9 w8 ho hg hn
      have H8 : Hid (w8.heap[w.heap.size]? = some (.cells #[.int .i64 kd, .string key, .int .i64 x, .int .i64 y, .bool fin, .bool has, .slice a n c] 44 (0, 0)) ∧ w8.heap[w.heap.size + 1]? = some (.cells #[.int .i64 0, .string (ByteArray.mk #[]), .int .i64 0, .int .i64 0, .bool false, .bool false, .slice none 0 0] 44 (0, 0)) ∧ Kept (fun _ => False) w w8 ∧ w8.ownsRow w.heap.size 5 1 (.slice p9 (n + 1) c9) (n + 1) (cellsOf (l ++ [90]))) := by
        have KG : Kept (fun k => blockOf p2 = some k) w2 w8 := (V5.out.1.mono (fun _ _ z => z.elim)).trans ((Kept.refl (fun k => blockOf p2 = some k) _).grown hg.out (fun k _ z => by rw [blockOf_own] at z; exact z)) (fun _ _ z => z)
        have n4 : ∀ k cs, w2.heap[k]? = some (.cells cs 44 (0, 0)) → ¬ blockOf p2 = some k := fun k cs hc z => by
          obtain ⟨c2, h2⟩ := own_type H2.out.2.2.2 k z
          rw [h2] at hc
          simp at hc
        refine ⟨KG.get H2.out.1 (n4 _ _ H2.out.1), KG.get H2.out.2.1 (n4 _ _ H2.out.2.1), H2.out.2.2.1.trans KG (fun j hj z => ?_), ?_⟩
        · have := (own_lt H2.out.2.2.2 j z).1
          omega
        · have := ho.out
          rw [cellsOf_snoc]
          exact this
      have SL : ∀ V, (Instr.slice 38 (.slice p9 (n + 1) c9) none (some (.int .i64 (n : Int))) none).run Tryz.prog V = .ok (.slice p9 n c9) V := fun V => slice_to H8.out.2.2.2 n (Nat.le_succ n) V
      clear ho hg hn
      refine hK.out _ _ trivial (fun hHeld => ?_)
      clear hK K
      (try simp only [Act.put, List.setIfInBounds_toArray, List.set_cons_zero, List.set_cons_succ])
      refine wpAnyH_ready (rs := [5]) (by kernel_rfl) (by simp) ?_
      refine (AllReadyH.cons (o := { dst := some 14, op := Op.load 38 (Operand.tmp 13), type := 38, pos := "law.go:95", after := #[{ on := 4, ground := Ground.data }], guard := none }) rfl (fun K hK => ?_) AllReadyH.nil)
      have c6 := cell_blk H8.out.1 6 (v := .slice a n c) rfl
      go_simp
      clear c6
      refine hK.out _ _ trivial (fun hHeld => ?_)
      clear hK K
      (try simp only [Act.put, List.setIfInBounds_toArray, List.set_cons_zero, List.set_cons_succ])
      refine wpAnyH_take (i := 6) (oi := { dst := some 15, op := Op.call { callee := Callee.builtin Builtin.len, args := #[Operand.tmp 14], argTypes := #[38] }, type := 3, pos := "law.go:95", after := #[{ on := 5, ground := Ground.data }], guard := none }) (v := .int .i64 (n : Int)) rfl (by kernel_rfl) (by kernel_rfl) (by kernel_rfl) (fun _ _ _ h => h) (Or.inl ⟨by rfl, ?_⟩) (by assumption) ?_
      · intro w9 hSw
        (try dsimp only at hSw)
        go_simp
      (try simp only [Act.put, List.setIfInBounds_toArray, List.set_cons_zero, List.set_cons_succ])
      have c6 := cell_blk H8.out.1 6 (v := .slice a n c) rfl
      have s6 := soft_blk H8.out.1 6
      refine wpAnyH_take (i := 7) (oi := { dst := some 16, op := Op.slice 38 (Operand.tmp 11) none (some (Operand.tmp 15)) none, type := 38, pos := "law.go:95", after := #[{ on := 2, ground := Ground.data }, { on := 6, ground := Ground.data }], guard := none }) (v := .slice p9 n c9) rfl (by kernel_rfl) (by kernel_rfl) (by kernel_rfl) (fun _ _ _ h => h) (Or.inl ⟨by rfl, ?_⟩) (by assumption) ?_
      · intro w9 hSw
        (try dsimp only at hSw)
        go_simp
      (try simp only [Act.put, List.setIfInBounds_toArray, List.set_cons_zero, List.set_cons_succ])
      refine wpAnyH_take (i := 8) (oi := { dst := some 17, op := Op.fieldAddr 44 (Operand.tmp 1) 2, type := 0, pos := "law.go:95", after := #[{ on := 0, ground := Ground.phase }, { on := 1, ground := Ground.phase }, { on := 2, ground := Ground.phase }, { on := 3, ground := Ground.phase }, { on := 4, ground := Ground.phase }, { on := 5, ground := Ground.phase }, { on := 6, ground := Ground.phase }, { on := 7, ground := Ground.phase }], guard := none }) (v := .pointer (some ⟨w.heap.size, 2, none⟩)) rfl (by kernel_rfl) (by kernel_rfl) (by kernel_rfl) (fun _ _ _ h => h) (Or.inl ⟨by rfl, ?_⟩) (by assumption) ?_
      · intro w9 hSw
        (try dsimp only at hSw)
        go_simp
      (try simp only [Act.put, List.setIfInBounds_toArray, List.set_cons_zero, List.set_cons_succ])
      refine wpAnyH_take (i := 9) (oi := { dst := some 18, op := Op.fieldAddr 40 (Operand.tmp 17) 3, type := 0, pos := "law.go:95", after := #[{ on := 8, ground := Ground.data }, { on := 0, ground := Ground.phase }, { on := 1, ground := Ground.phase }, { on := 2, ground := Ground.phase }, { on := 3, ground := Ground.phase }, { on := 4, ground := Ground.phase }, { on := 5, ground := Ground.phase }, { on := 6, ground := Ground.phase }, { on := 7, ground := Ground.phase }], guard := none }) (v := .pointer (some ⟨w.heap.size, 6, none⟩)) rfl (by kernel_rfl) (by kernel_rfl) (by kernel_rfl) (fun _ _ _ h => h) (Or.inl ⟨by rfl, ?_⟩) (by assumption) ?_
      · intro w9 hSw
        (try dsimp only at hSw)
        go_simp
      (try simp only [Act.put, List.setIfInBounds_toArray, List.set_cons_zero, List.set_cons_succ])
      refine wpAnyH_ready (rs := [10]) (by kernel_rfl) (by simp) ?_
      refine (AllReadyH.cons (o := { dst := none, op := Op.store 38 (Operand.tmp 18) (Operand.tmp 16), type := 0, pos := "law.go:95", after := #[{ on := 9, ground := Ground.data }, { on := 7, ground := Ground.data }, { on := 2, ground := Ground.chain }, { on := 0, ground := Ground.phase }, { on := 1, ground := Ground.phase }, { on := 2, ground := Ground.phase }, { on := 3, ground := Ground.phase }, { on := 4, ground := Ground.phase }, { on := 5, ground := Ground.phase }, { on := 6, ground := Ground.phase }, { on := 7, ground := Ground.phase }], guard := none }) rfl (fun K hK => ?_) AllReadyH.nil)
      go_simp
      refine hK.out _ _ trivial (fun hHeld => ?_)
      clear hK K
      (try simp only [Act.put, List.setIfInBounds_toArray, List.set_cons_zero, List.set_cons_succ])
      clear c6 s6 SL
      refine wpAnyH_done (by kernel_rfl) ?_ _
      obtain ⟨W9, hW9⟩ : ∃ W9, W9 = w8.setCell ⟨w.heap.size, 6, none⟩ (.slice p9 n c9) := ⟨_, rfl⟩
      have H9 : Hid (W9.heap[w.heap.size]? = some (.cells #[.int .i64 kd, .string key, .int .i64 x, .int .i64 y, .bool fin, .bool has, .slice p9 n c9] 44 (0, 0)) ∧ W9.heap[w.heap.size + 1]? = some (.cells #[.int .i64 0, .string (ByteArray.mk #[]), .int .i64 0, .int .i64 0, .bool false, .bool false, .slice none 0 0] 44 (0, 0)) ∧ Kept (fun _ => False) w W9 ∧ W9.ownsRow w.heap.size 5 1 (.slice p9 (n + 1) c9) (n + 1) (cellsOf (l ++ [90]))) := by
        have K9 : Kept (fun k => k = w.heap.size) w8 W9 := by rw [hW9]; exact (Kept.refl (fun k => k = w.heap.size) w8).setCell (p := ⟨w.heap.size, 6, none⟩) (fun _ => rfl) _
        refine ⟨by rw [hW9]; exact heap_set H8.out.1 6 _, K9.get H8.out.2.1 (by omega), H8.out.2.2.1.trans K9 (fun j hj z => by have z : j = w.heap.size := z; omega), K9.owns H8.out.2.2.2 (fun k hk z => ?_)⟩
        have z : k = w.heap.size := z
        obtain ⟨c2, h2⟩ := own_type H8.out.2.2.2 k (by rw [← blockOf_own]; exact hk)
        rw [z, H8.out.1] at h2
        simp at h2
      rw [← hW9]
      clear hW9
      have q0 := cell_blk H9.out.1 0 (v := .int .i64 kd) rfl
      have q1 := cell_blk H9.out.1 1 (v := .string key) rfl
      have q2 := cell_blk H9.out.1 2 (v := .int .i64 x) rfl
      have q3 := cell_blk H9.out.1 3 (v := .int .i64 y) rfl
      have q4 := cell_blk H9.out.1 4 (v := .bool fin) rfl
      have q5 := cell_blk H9.out.1 5 (v := .bool has) rfl
      have q6 := cell_blk H9.out.1 6 (v := .slice p9 n c9) rfl
      have r0 := cell_blk H9.out.2.1 0 (v := .int .i64 0) rfl
      have r1 := cell_blk H9.out.2.1 1 (v := .string (ByteArray.mk #[])) rfl
      have r2 := cell_blk H9.out.2.1 2 (v := .int .i64 0) rfl
      have r3 := cell_blk H9.out.2.1 3 (v := .int .i64 0) rfl
      have r4 := cell_blk H9.out.2.1 4 (v := .bool false) rfl
      have r5 := cell_blk H9.out.2.1 5 (v := .bool false) rfl
      have r6 := cell_blk H9.out.2.1 6 (v := .slice none 0 0) rfl
      have s0 := soft_blk H9.out.2.1 0
      have s1 := soft_blk H9.out.2.1 1
      have s2 := soft_blk H9.out.2.1 2
      have s3 := soft_blk H9.out.2.1 3
      have s4 := soft_blk H9.out.2.1 4
      have s5 := soft_blk H9.out.2.1 5
      have s6 := soft_blk H9.out.2.1 6
      go_wp2_with fail
      refine bodyPost_ret (results_upd rfl _ _ _ #[.int .i64 kd, .string key, .int .i64 x, .int .i64 y, .bool fin, .bool has, .slice p9 n c9] rfl rfl (heap_set (heap_set (heap_set (heap_set (heap_set (heap_set (heap_set H9.out.2.1 0 _) 1 _) 2 _) 3 _) 4 _) 5 _) 6 _)) rfl ⟨p9, c9, rfl, ?_⟩
      have KS : Kept (fun k => k = w.heap.size + 1) W9 (((((((W9.setCell ⟨w.heap.size + 1, 0, none⟩ (.int .i64 kd)).setCell ⟨w.heap.size + 1, 1, none⟩ (.string key)).setCell ⟨w.heap.size + 1, 2, none⟩ (.int .i64 x)).setCell ⟨w.heap.size + 1, 3, none⟩ (.int .i64 y)).setCell ⟨w.heap.size + 1, 4, none⟩ (.bool fin)).setCell ⟨w.heap.size + 1, 5, none⟩ (.bool has)).setCell ⟨w.heap.size + 1, 6, none⟩ (.slice p9 n c9)) := (((((((Kept.refl (fun k => k = w.heap.size + 1) W9).setCell (p := ⟨w.heap.size + 1, 0, none⟩) (fun _ => rfl) _).setCell (p := ⟨w.heap.size + 1, 1, none⟩) (fun _ => rfl) _).setCell (p := ⟨w.heap.size + 1, 2, none⟩) (fun _ => rfl) _).setCell (p := ⟨w.heap.size + 1, 3, none⟩) (fun _ => rfl) _).setCell (p := ⟨w.heap.size + 1, 4, none⟩) (fun _ => rfl) _).setCell (p := ⟨w.heap.size + 1, 5, none⟩) (fun _ => rfl) _).setCell (p := ⟨w.heap.size + 1, 6, none⟩) (fun _ => rfl) _
      refine ⟨KS.owns H9.out.2.2.2 (fun k hk z => ?_), H9.out.2.2.1.trans KS (fun j hj z => by have z : j = w.heap.size + 1 := z; omega)⟩
      have z : k = w.heap.size + 1 := z
      obtain ⟨c2, h2⟩ := own_type H9.out.2.2.2 k (by rw [← blockOf_own]; exact hk)
      rw [z, H9.out.2.1] at h2
      simp at h2
    · have c6 := c6b
      go_simp
      clear c6
      refine hK.out _ _ trivial (fun hHeld => ?_)
      clear hK K
      (try simp only [Act.put, List.setIfInBounds_toArray, List.set_cons_zero, List.set_cons_succ])
      refine wpAnyH_take (i := 6) (oi := { dst := some 15, op := Op.call { callee := Callee.builtin Builtin.len, args := #[Operand.tmp 14], argTypes := #[38] }, type := 3, pos := "law.go:95", after := #[{ on := 5, ground := Ground.data }], guard := none }) (v := .int .i64 (n : Int)) rfl (by kernel_rfl) (by kernel_rfl) (by kernel_rfl) (fun _ _ _ h => h) (Or.inl ⟨by rfl, ?_⟩) (by assumption) ?_
      · intro w9 hSw
        (try dsimp only at hSw)
        go_simp
      (try simp only [Act.put, List.setIfInBounds_toArray, List.set_cons_zero, List.set_cons_succ])
      refine wpAnyH_ready (rs := [2]) (by kernel_rfl) (by simp) ?_
      refine (AllReadyH.cons (o := { dst := some 11, op := Op.call { callee := Callee.builtin Builtin.append, args := #[Operand.tmp 9, Operand.tmp 10], argTypes := #[38, 38] }, type := 38, pos := "law.go:95", after := #[{ on := 0, ground := Ground.data }, { on := 1, ground := Ground.data }], guard := none }) rfl (fun K hK => ?_) AllReadyH.nil)
      refine step_append_all _ (by rfl) (.tmp 9) (.tmp 10) 38 5 38 _ 1 1 (by rfl) Tryz.underlying38 Tryz.info5 rfl w.heap.size (.slice p2 n k2) n (cellsOf l) (by rfl) (V5.out.1.owns H2.out.2.2.2 (fun _ _ z => z)) _ 1 [.int .u8 90] (by rfl) (src_90 V5.out.2) BL.out.1 BL.out.2 (Nat.le_trans H2.out.2.2.1.size V5.out.1.size) ?_
      intro p9 c9 w8 ho hg hn
      have H8 : Hid (w8.heap[w.heap.size]? = some (.cells #[.int .i64 kd, .string key, .int .i64 x, .int .i64 y, .bool fin, .bool has, .slice a n c] 44 (0, 0)) ∧ w8.heap[w.heap.size + 1]? = some (.cells #[.int .i64 0, .string (ByteArray.mk #[]), .int .i64 0, .int .i64 0, .bool false, .bool false, .slice none 0 0] 44 (0, 0)) ∧ Kept (fun _ => False) w w8 ∧ w8.ownsRow w.heap.size 5 1 (.slice p9 (n + 1) c9) (n + 1) (cellsOf (l ++ [90]))) := by
        have KG : Kept (fun k => blockOf p2 = some k) w2 w8 := (V5.out.1.mono (fun _ _ z => z.elim)).trans ((Kept.refl (fun k => blockOf p2 = some k) _).grown hg.out (fun k _ z => by rw [blockOf_own] at z; exact z)) (fun _ _ z => z)
        have n4 : ∀ k cs, w2.heap[k]? = some (.cells cs 44 (0, 0)) → ¬ blockOf p2 = some k := fun k cs hc z => by
          obtain ⟨c2, h2⟩ := own_type H2.out.2.2.2 k z
          rw [h2] at hc
          simp at hc
        refine ⟨KG.get H2.out.1 (n4 _ _ H2.out.1), KG.get H2.out.2.1 (n4 _ _ H2.out.2.1), H2.out.2.2.1.trans KG (fun j hj z => ?_), ?_⟩
        · have := (own_lt H2.out.2.2.2 j z).1
          omega
        · have := ho.out
          rw [cellsOf_snoc]
          exact this
      have SL : ∀ V, (Instr.slice 38 (.slice p9 (n + 1) c9) none (some (.int .i64 (n : Int))) none).run Tryz.prog V = .ok (.slice p9 n c9) V := fun V => slice_to H8.out.2.2.2 n (Nat.le_succ n) V
      clear ho hg hn
      refine hK.out _ _ trivial (fun hHeld => ?_)
      clear hK K
      (try simp only [Act.put, List.setIfInBounds_toArray, List.set_cons_zero, List.set_cons_succ])
      have c6 := cell_blk H8.out.1 6 (v := .slice a n c) rfl
      have s6 := soft_blk H8.out.1 6
      refine wpAnyH_take (i := 7) (oi := { dst := some 16, op := Op.slice 38 (Operand.tmp 11) none (some (Operand.tmp 15)) none, type := 38, pos := "law.go:95", after := #[{ on := 2, ground := Ground.data }, { on := 6, ground := Ground.data }], guard := none }) (v := .slice p9 n c9) rfl (by kernel_rfl) (by kernel_rfl) (by kernel_rfl) (fun _ _ _ h => h) (Or.inl ⟨by rfl, ?_⟩) (by assumption) ?_
      · intro w9 hSw
        (try dsimp only at hSw)
        go_simp
      (try simp only [Act.put, List.setIfInBounds_toArray, List.set_cons_zero, List.set_cons_succ])
      refine wpAnyH_take (i := 8) (oi := { dst := some 17, op := Op.fieldAddr 44 (Operand.tmp 1) 2, type := 0, pos := "law.go:95", after := #[{ on := 0, ground := Ground.phase }, { on := 1, ground := Ground.phase }, { on := 2, ground := Ground.phase }, { on := 3, ground := Ground.phase }, { on := 4, ground := Ground.phase }, { on := 5, ground := Ground.phase }, { on := 6, ground := Ground.phase }, { on := 7, ground := Ground.phase }], guard := none }) (v := .pointer (some ⟨w.heap.size, 2, none⟩)) rfl (by kernel_rfl) (by kernel_rfl) (by kernel_rfl) (fun _ _ _ h => h) (Or.inl ⟨by rfl, ?_⟩) (by assumption) ?_
      · intro w9 hSw
        (try dsimp only at hSw)
        go_simp
      (try simp only [Act.put, List.setIfInBounds_toArray, List.set_cons_zero, List.set_cons_succ])
      refine wpAnyH_take (i := 9) (oi := { dst := some 18, op := Op.fieldAddr 40 (Operand.tmp 17) 3, type := 0, pos := "law.go:95", after := #[{ on := 8, ground := Ground.data }, { on := 0, ground := Ground.phase }, { on := 1, ground := Ground.phase }, { on := 2, ground := Ground.phase }, { on := 3, ground := Ground.phase }, { on := 4, ground := Ground.phase }, { on := 5, ground := Ground.phase }, { on := 6, ground := Ground.phase }, { on := 7, ground := Ground.phase }], guard := none }) (v := .pointer (some ⟨w.heap.size, 6, none⟩)) rfl (by kernel_rfl) (by kernel_rfl) (by kernel_rfl) (fun _ _ _ h => h) (Or.inl ⟨by rfl, ?_⟩) (by assumption) ?_
      · intro w9 hSw
        (try dsimp only at hSw)
        go_simp
      (try simp only [Act.put, List.setIfInBounds_toArray, List.set_cons_zero, List.set_cons_succ])
      refine wpAnyH_ready (rs := [10]) (by kernel_rfl) (by simp) ?_
      refine (AllReadyH.cons (o := { dst := none, op := Op.store 38 (Operand.tmp 18) (Operand.tmp 16), type := 0, pos := "law.go:95", after := #[{ on := 9, ground := Ground.data }, { on := 7, ground := Ground.data }, { on := 2, ground := Ground.chain }, { on := 0, ground := Ground.phase }, { on := 1, ground := Ground.phase }, { on := 2, ground := Ground.phase }, { on := 3, ground := Ground.phase }, { on := 4, ground := Ground.phase }, { on := 5, ground := Ground.phase }, { on := 6, ground := Ground.phase }, { on := 7, ground := Ground.phase }], guard := none }) rfl (fun K hK => ?_) AllReadyH.nil)
      go_simp
      refine hK.out _ _ trivial (fun hHeld => ?_)
      clear hK K
      (try simp only [Act.put, List.setIfInBounds_toArray, List.set_cons_zero, List.set_cons_succ])
      clear c6 s6 SL
      refine wpAnyH_done (by kernel_rfl) ?_ _
      obtain ⟨W9, hW9⟩ : ∃ W9, W9 = w8.setCell ⟨w.heap.size, 6, none⟩ (.slice p9 n c9) := ⟨_, rfl⟩
      have H9 : Hid (W9.heap[w.heap.size]? = some (.cells #[.int .i64 kd, .string key, .int .i64 x, .int .i64 y, .bool fin, .bool has, .slice p9 n c9] 44 (0, 0)) ∧ W9.heap[w.heap.size + 1]? = some (.cells #[.int .i64 0, .string (ByteArray.mk #[]), .int .i64 0, .int .i64 0, .bool false, .bool false, .slice none 0 0] 44 (0, 0)) ∧ Kept (fun _ => False) w W9 ∧ W9.ownsRow w.heap.size 5 1 (.slice p9 (n + 1) c9) (n + 1) (cellsOf (l ++ [90]))) := by
        have K9 : Kept (fun k => k = w.heap.size) w8 W9 := by rw [hW9]; exact (Kept.refl (fun k => k = w.heap.size) w8).setCell (p := ⟨w.heap.size, 6, none⟩) (fun _ => rfl) _
        refine ⟨by rw [hW9]; exact heap_set H8.out.1 6 _, K9.get H8.out.2.1 (by omega), H8.out.2.2.1.trans K9 (fun j hj z => by have z : j = w.heap.size := z; omega), K9.owns H8.out.2.2.2 (fun k hk z => ?_)⟩
        have z : k = w.heap.size := z
        obtain ⟨c2, h2⟩ := own_type H8.out.2.2.2 k (by rw [← blockOf_own]; exact hk)
        rw [z, H8.out.1] at h2
        simp at h2
      rw [← hW9]
      clear hW9
      have q0 := cell_blk H9.out.1 0 (v := .int .i64 kd) rfl
      have q1 := cell_blk H9.out.1 1 (v := .string key) rfl
      have q2 := cell_blk H9.out.1 2 (v := .int .i64 x) rfl
      have q3 := cell_blk H9.out.1 3 (v := .int .i64 y) rfl
      have q4 := cell_blk H9.out.1 4 (v := .bool fin) rfl
      have q5 := cell_blk H9.out.1 5 (v := .bool has) rfl
      have q6 := cell_blk H9.out.1 6 (v := .slice p9 n c9) rfl
      have r0 := cell_blk H9.out.2.1 0 (v := .int .i64 0) rfl
      have r1 := cell_blk H9.out.2.1 1 (v := .string (ByteArray.mk #[])) rfl
      have r2 := cell_blk H9.out.2.1 2 (v := .int .i64 0) rfl
      have r3 := cell_blk H9.out.2.1 3 (v := .int .i64 0) rfl
      have r4 := cell_blk H9.out.2.1 4 (v := .bool false) rfl
      have r5 := cell_blk H9.out.2.1 5 (v := .bool false) rfl
      have r6 := cell_blk H9.out.2.1 6 (v := .slice none 0 0) rfl
      have s0 := soft_blk H9.out.2.1 0
      have s1 := soft_blk H9.out.2.1 1
      have s2 := soft_blk H9.out.2.1 2
      have s3 := soft_blk H9.out.2.1 3
      have s4 := soft_blk H9.out.2.1 4
      have s5 := soft_blk H9.out.2.1 5
      have s6 := soft_blk H9.out.2.1 6
      go_wp2_with fail
      refine bodyPost_ret (results_upd rfl _ _ _ #[.int .i64 kd, .string key, .int .i64 x, .int .i64 y, .bool fin, .bool has, .slice p9 n c9] rfl rfl (heap_set (heap_set (heap_set (heap_set (heap_set (heap_set (heap_set H9.out.2.1 0 _) 1 _) 2 _) 3 _) 4 _) 5 _) 6 _)) rfl ⟨p9, c9, rfl, ?_⟩
      have KS : Kept (fun k => k = w.heap.size + 1) W9 (((((((W9.setCell ⟨w.heap.size + 1, 0, none⟩ (.int .i64 kd)).setCell ⟨w.heap.size + 1, 1, none⟩ (.string key)).setCell ⟨w.heap.size + 1, 2, none⟩ (.int .i64 x)).setCell ⟨w.heap.size + 1, 3, none⟩ (.int .i64 y)).setCell ⟨w.heap.size + 1, 4, none⟩ (.bool fin)).setCell ⟨w.heap.size + 1, 5, none⟩ (.bool has)).setCell ⟨w.heap.size + 1, 6, none⟩ (.slice p9 n c9)) := (((((((Kept.refl (fun k => k = w.heap.size + 1) W9).setCell (p := ⟨w.heap.size + 1, 0, none⟩) (fun _ => rfl) _).setCell (p := ⟨w.heap.size + 1, 1, none⟩) (fun _ => rfl) _).setCell (p := ⟨w.heap.size + 1, 2, none⟩) (fun _ => rfl) _).setCell (p := ⟨w.heap.size + 1, 3, none⟩) (fun _ => rfl) _).setCell (p := ⟨w.heap.size + 1, 4, none⟩) (fun _ => rfl) _).setCell (p := ⟨w.heap.size + 1, 5, none⟩) (fun _ => rfl) _).setCell (p := ⟨w.heap.size + 1, 6, none⟩) (fun _ => rfl) _
      refine ⟨KS.owns H9.out.2.2.2 (fun k hk z => ?_), H9.out.2.2.1.trans KS (fun j hj z => by have z : j = w.heap.size + 1 := z; omega)⟩
      have z : k = w.heap.size + 1 := z
      obtain ⟨c2, h2⟩ := own_type H9.out.2.2.2 k (by rw [← blockOf_own]; exact hk)
      rw [z, H9.out.2.1] at h2
      simp at h2
  · have c6 := c6a
    go_simp
    clear c6
    refine hK.out _ _ trivial (fun hHeld => ?_)
    clear hK K
    (try simp only [Act.put, List.setIfInBounds_toArray, List.set_cons_zero, List.set_cons_succ])
    refine wpAnyH_take (i := 6) (oi := { dst := some 15, op := Op.call { callee := Callee.builtin Builtin.len, args := #[Operand.tmp 14], argTypes := #[38] }, type := 3, pos := "law.go:95", after := #[{ on := 5, ground := Ground.data }], guard := none }) (v := .int .i64 (n : Int)) rfl (by kernel_rfl) (by kernel_rfl) (by kernel_rfl) (fun _ _ _ h => h) (Or.inl ⟨by rfl, ?_⟩) (by assumption) ?_
    · intro w9 hSw
      (try dsimp only at hSw)
      go_simp
    (try simp only [Act.put, List.setIfInBounds_toArray, List.set_cons_zero, List.set_cons_succ])
    refine wpAnyH_ready (rs := [1]) (by kernel_rfl) (by simp) ?_
    refine (AllReadyH.cons (o := { dst := some 10, op := Op.buildSlice 38 1 #[(0, Operand.const (Value.int IntKind.u8 90))], type := 38, pos := "law.go:95", after := #[], guard := none }) rfl (fun K hK => ?_) AllReadyH.nil)
    go_simp
    refine hK.out _ _ trivial (fun hHeld => ?_)
    clear hK K
    (try simp only [Act.put, List.setIfInBounds_toArray, List.set_cons_zero, List.set_cons_succ])
    refine wpAnyH_ready (rs := [2]) (by kernel_rfl) (by simp) ?_
    refine (AllReadyH.cons (o := { dst := some 11, op := Op.call { callee := Callee.builtin Builtin.append, args := #[Operand.tmp 9, Operand.tmp 10], argTypes := #[38, 38] }, type := 38, pos := "law.go:95", after := #[{ on := 0, ground := Ground.data }, { on := 1, ground := Ground.data }], guard := none }) rfl (fun K hK => ?_) AllReadyH.nil)
    refine step_append_all _ (by rfl) (.tmp 9) (.tmp 10) 38 5 38 _ 1 1 (by rfl) Tryz.underlying38 Tryz.info5 rfl w.heap.size (.slice p2 n k2) n (cellsOf l) (by rfl) (V5.out.1.owns H2.out.2.2.2 (fun _ _ z => z)) _ 1 [.int .u8 90] (by rfl) (src_90 V5.out.2) BL.out.1 BL.out.2 (Nat.le_trans H2.out.2.2.1.size V5.out.1.size) ?_
    intro p9 c9 w8 ho hg hn
    have H8 : Hid (w8.heap[w.heap.size]? = some (.cells #[.int .i64 kd, .string key, .int .i64 x, .int .i64 y, .bool fin, .bool has, .slice a n c] 44 (0, 0)) ∧ w8.heap[w.heap.size + 1]? = some (.cells #[.int .i64 0, .string (ByteArray.mk #[]), .int .i64 0, .int .i64 0, .bool false, .bool false, .slice none 0 0] 44 (0, 0)) ∧ Kept (fun _ => False) w w8 ∧ w8.ownsRow w.heap.size 5 1 (.slice p9 (n + 1) c9) (n + 1) (cellsOf (l ++ [90]))) := by
      have KG : Kept (fun k => blockOf p2 = some k) w2 w8 := (V5.out.1.mono (fun _ _ z => z.elim)).trans ((Kept.refl (fun k => blockOf p2 = some k) _).grown hg.out (fun k _ z => by rw [blockOf_own] at z; exact z)) (fun _ _ z => z)
      have n4 : ∀ k cs, w2.heap[k]? = some (.cells cs 44 (0, 0)) → ¬ blockOf p2 = some k := fun k cs hc z => by
        obtain ⟨c2, h2⟩ := own_type H2.out.2.2.2 k z
        rw [h2] at hc
        simp at hc
      refine ⟨KG.get H2.out.1 (n4 _ _ H2.out.1), KG.get H2.out.2.1 (n4 _ _ H2.out.2.1), H2.out.2.2.1.trans KG (fun j hj z => ?_), ?_⟩
      · have := (own_lt H2.out.2.2.2 j z).1
        omega
      · have := ho.out
        rw [cellsOf_snoc]
        exact this
    have SL : ∀ V, (Instr.slice 38 (.slice p9 (n + 1) c9) none (some (.int .i64 (n : Int))) none).run Tryz.prog V = .ok (.slice p9 n c9) V := fun V => slice_to H8.out.2.2.2 n (Nat.le_succ n) V
    clear ho hg hn
    refine hK.out _ _ trivial (fun hHeld => ?_)
    clear hK K
    (try simp only [Act.put, List.setIfInBounds_toArray, List.set_cons_zero, List.set_cons_succ])
    have c6 := cell_blk H8.out.1 6 (v := .slice a n c) rfl
    have s6 := soft_blk H8.out.1 6
    refine wpAnyH_take (i := 7) (oi := { dst := some 16, op := Op.slice 38 (Operand.tmp 11) none (some (Operand.tmp 15)) none, type := 38, pos := "law.go:95", after := #[{ on := 2, ground := Ground.data }, { on := 6, ground := Ground.data }], guard := none }) (v := .slice p9 n c9) rfl (by kernel_rfl) (by kernel_rfl) (by kernel_rfl) (fun _ _ _ h => h) (Or.inl ⟨by rfl, ?_⟩) (by assumption) ?_
    · intro w9 hSw
      (try dsimp only at hSw)
      go_simp
    (try simp only [Act.put, List.setIfInBounds_toArray, List.set_cons_zero, List.set_cons_succ])
    refine wpAnyH_take (i := 8) (oi := { dst := some 17, op := Op.fieldAddr 44 (Operand.tmp 1) 2, type := 0, pos := "law.go:95", after := #[{ on := 0, ground := Ground.phase }, { on := 1, ground := Ground.phase }, { on := 2, ground := Ground.phase }, { on := 3, ground := Ground.phase }, { on := 4, ground := Ground.phase }, { on := 5, ground := Ground.phase }, { on := 6, ground := Ground.phase }, { on := 7, ground := Ground.phase }], guard := none }) (v := .pointer (some ⟨w.heap.size, 2, none⟩)) rfl (by kernel_rfl) (by kernel_rfl) (by kernel_rfl) (fun _ _ _ h => h) (Or.inl ⟨by rfl, ?_⟩) (by assumption) ?_
    · intro w9 hSw
      (try dsimp only at hSw)
      go_simp
    (try simp only [Act.put, List.setIfInBounds_toArray, List.set_cons_zero, List.set_cons_succ])
    refine wpAnyH_take (i := 9) (oi := { dst := some 18, op := Op.fieldAddr 40 (Operand.tmp 17) 3, type := 0, pos := "law.go:95", after := #[{ on := 8, ground := Ground.data }, { on := 0, ground := Ground.phase }, { on := 1, ground := Ground.phase }, { on := 2, ground := Ground.phase }, { on := 3, ground := Ground.phase }, { on := 4, ground := Ground.phase }, { on := 5, ground := Ground.phase }, { on := 6, ground := Ground.phase }, { on := 7, ground := Ground.phase }], guard := none }) (v := .pointer (some ⟨w.heap.size, 6, none⟩)) rfl (by kernel_rfl) (by kernel_rfl) (by kernel_rfl) (fun _ _ _ h => h) (Or.inl ⟨by rfl, ?_⟩) (by assumption) ?_
    · intro w9 hSw
      (try dsimp only at hSw)
      go_simp
    (try simp only [Act.put, List.setIfInBounds_toArray, List.set_cons_zero, List.set_cons_succ])
    refine wpAnyH_ready (rs := [10]) (by kernel_rfl) (by simp) ?_
    refine (AllReadyH.cons (o := { dst := none, op := Op.store 38 (Operand.tmp 18) (Operand.tmp 16), type := 0, pos := "law.go:95", after := #[{ on := 9, ground := Ground.data }, { on := 7, ground := Ground.data }, { on := 2, ground := Ground.chain }, { on := 0, ground := Ground.phase }, { on := 1, ground := Ground.phase }, { on := 2, ground := Ground.phase }, { on := 3, ground := Ground.phase }, { on := 4, ground := Ground.phase }, { on := 5, ground := Ground.phase }, { on := 6, ground := Ground.phase }, { on := 7, ground := Ground.phase }], guard := none }) rfl (fun K hK => ?_) AllReadyH.nil)
    go_simp
    refine hK.out _ _ trivial (fun hHeld => ?_)
    clear hK K
    (try simp only [Act.put, List.setIfInBounds_toArray, List.set_cons_zero, List.set_cons_succ])
    clear c6 s6 SL
    refine wpAnyH_done (by kernel_rfl) ?_ _
    obtain ⟨W9, hW9⟩ : ∃ W9, W9 = w8.setCell ⟨w.heap.size, 6, none⟩ (.slice p9 n c9) := ⟨_, rfl⟩
    have H9 : Hid (W9.heap[w.heap.size]? = some (.cells #[.int .i64 kd, .string key, .int .i64 x, .int .i64 y, .bool fin, .bool has, .slice p9 n c9] 44 (0, 0)) ∧ W9.heap[w.heap.size + 1]? = some (.cells #[.int .i64 0, .string (ByteArray.mk #[]), .int .i64 0, .int .i64 0, .bool false, .bool false, .slice none 0 0] 44 (0, 0)) ∧ Kept (fun _ => False) w W9 ∧ W9.ownsRow w.heap.size 5 1 (.slice p9 (n + 1) c9) (n + 1) (cellsOf (l ++ [90]))) := by
      have K9 : Kept (fun k => k = w.heap.size) w8 W9 := by rw [hW9]; exact (Kept.refl (fun k => k = w.heap.size) w8).setCell (p := ⟨w.heap.size, 6, none⟩) (fun _ => rfl) _
      refine ⟨by rw [hW9]; exact heap_set H8.out.1 6 _, K9.get H8.out.2.1 (by omega), H8.out.2.2.1.trans K9 (fun j hj z => by have z : j = w.heap.size := z; omega), K9.owns H8.out.2.2.2 (fun k hk z => ?_)⟩
      have z : k = w.heap.size := z
      obtain ⟨c2, h2⟩ := own_type H8.out.2.2.2 k (by rw [← blockOf_own]; exact hk)
      rw [z, H8.out.1] at h2
      simp at h2
    rw [← hW9]
    clear hW9
    have q0 := cell_blk H9.out.1 0 (v := .int .i64 kd) rfl
    have q1 := cell_blk H9.out.1 1 (v := .string key) rfl
    have q2 := cell_blk H9.out.1 2 (v := .int .i64 x) rfl
    have q3 := cell_blk H9.out.1 3 (v := .int .i64 y) rfl
    have q4 := cell_blk H9.out.1 4 (v := .bool fin) rfl
    have q5 := cell_blk H9.out.1 5 (v := .bool has) rfl
    have q6 := cell_blk H9.out.1 6 (v := .slice p9 n c9) rfl
    have r0 := cell_blk H9.out.2.1 0 (v := .int .i64 0) rfl
    have r1 := cell_blk H9.out.2.1 1 (v := .string (ByteArray.mk #[])) rfl
    have r2 := cell_blk H9.out.2.1 2 (v := .int .i64 0) rfl
    have r3 := cell_blk H9.out.2.1 3 (v := .int .i64 0) rfl
    have r4 := cell_blk H9.out.2.1 4 (v := .bool false) rfl
    have r5 := cell_blk H9.out.2.1 5 (v := .bool false) rfl
    have r6 := cell_blk H9.out.2.1 6 (v := .slice none 0 0) rfl
    have s0 := soft_blk H9.out.2.1 0
    have s1 := soft_blk H9.out.2.1 1
    have s2 := soft_blk H9.out.2.1 2
    have s3 := soft_blk H9.out.2.1 3
    have s4 := soft_blk H9.out.2.1 4
    have s5 := soft_blk H9.out.2.1 5
    have s6 := soft_blk H9.out.2.1 6
    go_wp2_with fail
    refine bodyPost_ret (results_upd rfl _ _ _ #[.int .i64 kd, .string key, .int .i64 x, .int .i64 y, .bool fin, .bool has, .slice p9 n c9] rfl rfl (heap_set (heap_set (heap_set (heap_set (heap_set (heap_set (heap_set H9.out.2.1 0 _) 1 _) 2 _) 3 _) 4 _) 5 _) 6 _)) rfl ⟨p9, c9, rfl, ?_⟩
    have KS : Kept (fun k => k = w.heap.size + 1) W9 (((((((W9.setCell ⟨w.heap.size + 1, 0, none⟩ (.int .i64 kd)).setCell ⟨w.heap.size + 1, 1, none⟩ (.string key)).setCell ⟨w.heap.size + 1, 2, none⟩ (.int .i64 x)).setCell ⟨w.heap.size + 1, 3, none⟩ (.int .i64 y)).setCell ⟨w.heap.size + 1, 4, none⟩ (.bool fin)).setCell ⟨w.heap.size + 1, 5, none⟩ (.bool has)).setCell ⟨w.heap.size + 1, 6, none⟩ (.slice p9 n c9)) := (((((((Kept.refl (fun k => k = w.heap.size + 1) W9).setCell (p := ⟨w.heap.size + 1, 0, none⟩) (fun _ => rfl) _).setCell (p := ⟨w.heap.size + 1, 1, none⟩) (fun _ => rfl) _).setCell (p := ⟨w.heap.size + 1, 2, none⟩) (fun _ => rfl) _).setCell (p := ⟨w.heap.size + 1, 3, none⟩) (fun _ => rfl) _).setCell (p := ⟨w.heap.size + 1, 4, none⟩) (fun _ => rfl) _).setCell (p := ⟨w.heap.size + 1, 5, none⟩) (fun _ => rfl) _).setCell (p := ⟨w.heap.size + 1, 6, none⟩) (fun _ => rfl) _
    refine ⟨KS.owns H9.out.2.2.2 (fun k hk z => ?_), H9.out.2.2.1.trans KS (fun j hj z => by have z : j = w.heap.size + 1 := z; omega)⟩
    have z : k = w.heap.size + 1 := z
    obtain ⟨c2, h2⟩ := own_type H9.out.2.2.2 k (by rw [← blockOf_own]; exact hk)
    rw [z, H9.out.2.1] at h2
    simp at h2
end Go.Proofs.YtojepeefphbekaaGreat
