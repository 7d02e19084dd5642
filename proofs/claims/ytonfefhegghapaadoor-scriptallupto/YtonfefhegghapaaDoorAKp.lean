import Derived.Test.YtonfefhegghapaaDoorASt
namespace Go.Proofs.YtonfefhegghapaaDoor
open Go.RowKit 

set_option maxRecDepth 100000 in
set_option maxHeartbeats 8000000 in
/-- kept. -/
theorem hKept {b0 : Nat} {w : World} {x y : Sm} {s : St} (Y : CO b0 w y s) (X : SRd w x s) : Calls Tryd.prog 21 #[.agg y.cs, .agg x.cs] w fun o w' => o = .returned (.bool true) ∧ Kept (fun _ => False) w w' := by
  have ks : KS s := ⟨X.ka, X.kb, X.l.ki⟩
  have YR : SRd w y s := Y.srd ks X.sm
  have HI := Y.ints ks
  have HB := Y.bytes
  have C0 : Hid (∀ V, Kept (fun _ => False) w V → Calls Tryd.prog 37 #[.agg y.cs, .agg x.cs] V fun o w' => o = .returned (.bool true) ∧ Kept (fun _ => False) V w') := fun V K => hSame (YR.kept K) (X.kept K)
  obtain ⟨kind, a, b, key, va, vn, vc, la, ln, lc⟩ := y
  obtain ⟨kind', a', b', key', va', vn', vc', la', ln', lc'⟩ := x
  obtain rfl : kind = kind' := YR.kind.trans X.kind.symm
  obtain rfl : a = a' := YR.a.trans X.a.symm
  obtain rfl : b = b' := YR.b.trans X.b.symm
  obtain rfl : key = key' := YR.key.trans X.key.symm
  obtain rfl : vn = vn' := YR.v.len.symm.trans X.v.len
  obtain rfl : ln = ln' := YR.l.len.symm.trans X.l.len
  have hv : s.val.length = vn := YR.v.len
  have hl : s.l.length = ln := YR.l.len
  have hsm := X.sm
  have vz : vn ≤ 134217728 := by omega
  have lz : ln ≤ 134217728 := by omega
  obtain ⟨lb, lo, ela, lc0⟩ := HI.cells (by omega)
  obtain ⟨vb, vo, eva, vc0⟩ := HB.cells (by omega)
  have ela : la = some ⟨lb, lo, none⟩ := ela
  have eva : va = some ⟨vb, vo, none⟩ := eva
  subst ela
  subst eva
  have rl : ln + 1 ≤ lc := HI.room
  have rv : vn + 2 ≤ vc := HB.room
  have m0 : w.cell? ⟨lb, lo + ln, none⟩ = some (.int .i64 (-77)) := lc0 ln (-77) (by rw [List.getElem?_append_right (by omega), hl, Nat.sub_self]; rfl)
  have m1 : w.cell? ⟨vb, vo + vn, none⟩ = some (.int .u8 193) := vc0 vn 193 (by rw [List.getElem?_append_right (by omega), hv, Nat.sub_self]; rfl)
  have m2 : w.cell? ⟨vb, vo + (vn + 1), none⟩ = some (.int .u8 194) := vc0 (vn + 1) 194 (by rw [List.getElem?_append_right (by omega), hv, show vn + 1 - vn = 1 by omega]; rfl)
  have HM : Hid (w.cell? ⟨lb, lo + ln, none⟩ = some (.int .i64 (-77)) ∧ w.cell? ⟨vb, vo + vn, none⟩ = some (.int .u8 193) ∧ w.cell? ⟨vb, vo + (vn + 1), none⟩ = some (.int .u8 194)) := ⟨m0, m1, m2⟩
  have C : Hid (∀ V, Kept (fun _ => False) w V → Calls Tryd.prog 37 #[.agg #[.int .i64 kind, .int .i64 a, .int .i64 b, .string key, .slice (some ⟨vb, vo, none⟩) vn vc, .slice (some ⟨lb, lo, none⟩) ln lc], .agg #[.int .i64 kind, .int .i64 a, .int .i64 b, .string key, .slice va' vn vc', .slice la' ln lc']] V fun o w' => o = .returned (.bool true) ∧ Kept (fun _ => False) V w') := C0
  clear C0 HI HB YR X Y ks lc0 vc0 m0 m1 m2 hsm hv hl
  show Calls Tryd.prog 21 #[.agg #[.int .i64 kind, .int .i64 a, .int .i64 b, .string key, .slice (some ⟨vb, vo, none⟩) vn vc, .slice (some ⟨lb, lo, none⟩) ln lc], .agg #[.int .i64 kind, .int .i64 a, .int .i64 b, .string key, .slice va' vn vc', .slice la' ln lc']] w _
  obtain ⟨W, hW⟩ : ∃ W, (w.alloc (.cells #[.int .i64 kind, .int .i64 a, .int .i64 b, .string key, .slice (some ⟨vb, vo, none⟩) vn vc, .slice (some ⟨lb, lo, none⟩) ln lc] 38)).alloc (.cells #[.int .i64 kind, .int .i64 a, .int .i64 b, .string key, .slice va' vn vc', .slice la' ln lc'] 38) = W := ⟨_, rfl⟩
  have S : Hid (W.heap[w.heap.size]? = some (.cells #[.int .i64 kind, .int .i64 a, .int .i64 b, .string key, .slice (some ⟨vb, vo, none⟩) vn vc, .slice (some ⟨lb, lo, none⟩) ln lc] 38 (0, 0)) ∧ W.heap[w.heap.size + 1]? = some (.cells #[.int .i64 kind, .int .i64 a, .int .i64 b, .string key, .slice va' vn vc', .slice la' ln lc'] 38 (0, 0)) ∧ Kept (fun _ => False) w W) := by
    rw [← hW]
    exact ⟨alloc_old _ (alloc_new _ _), alloc_new2 _ _ _ _, ((Kept.refl _ _).alloc _).alloc _⟩
  have HW : Hid ((w.alloc (.cells #[.int .i64 kind, .int .i64 a, .int .i64 b, .string key, .slice (some ⟨vb, vo, none⟩) vn vc, .slice (some ⟨lb, lo, none⟩) ln lc] 38)).alloc (.cells #[.int .i64 kind, .int .i64 a, .int .i64 b, .string key, .slice va' vn vc', .slice la' ln lc'] 38) = W) := hW
  have l1 : ((ln : Int) + 1) ≤ (lc : Int) := by omega
  have l2 : (ln : Int) < (ln : Int) + 1 := by omega
  have v1 : ((vn : Int) + 2) ≤ (vc : Int) := by omega
  have g1 : IntKind.i64.wrap ((ln : Int) + 1) = (ln : Int) + 1 := by rw [IntKind.wrap_i64]; omega
  have g2 : ¬ (ln : Int) + 1 < 0 := by omega
  clear hW
  go_enter Tryd.func21, Tryd.ntmps21
  go_upto_region 1 with fail
  rw [HW.out]
  clear HW
  have x4 := cell_blk S.out.2.1 4 (v := .slice va' vn vc') rfl
  go_upto_region 2 with fail
  clear x4
  have MK : Hid (∀ V, Kept (fun _ => False) W V → (V.cell? ⟨w.heap.size, 0, none⟩ = some (.int .i64 kind) ∧ V.cell? ⟨w.heap.size, 1, none⟩ = some (.int .i64 a) ∧ V.cell? ⟨w.heap.size, 2, none⟩ = some (.int .i64 b) ∧ V.cell? ⟨w.heap.size, 3, none⟩ = some (.string key) ∧ V.cell? ⟨w.heap.size, 4, none⟩ = some (.slice (some ⟨vb, vo, none⟩) vn vc) ∧ V.cell? ⟨w.heap.size, 5, none⟩ = some (.slice (some ⟨lb, lo, none⟩) ln lc) ∧ V.cell? ⟨w.heap.size + 1, 0, none⟩ = some (.int .i64 kind) ∧ V.cell? ⟨w.heap.size + 1, 1, none⟩ = some (.int .i64 a) ∧ V.cell? ⟨w.heap.size + 1, 2, none⟩ = some (.int .i64 b) ∧ V.cell? ⟨w.heap.size + 1, 3, none⟩ = some (.string key) ∧ V.cell? ⟨w.heap.size + 1, 4, none⟩ = some (.slice va' vn vc') ∧ V.cell? ⟨w.heap.size + 1, 5, none⟩ = some (.slice la' ln lc') ∧ V.cell? ⟨lb, lo + ln, none⟩ = some (.int .i64 (-77)))) := fun V K => ⟨K.cell (cell_blk S.out.1 0 (v := .int .i64 kind) rfl) (fun z => z), K.cell (cell_blk S.out.1 1 (v := .int .i64 a) rfl) (fun z => z), K.cell (cell_blk S.out.1 2 (v := .int .i64 b) rfl) (fun z => z), K.cell (cell_blk S.out.1 3 (v := .string key) rfl) (fun z => z), K.cell (cell_blk S.out.1 4 (v := .slice (some ⟨vb, vo, none⟩) vn vc) rfl) (fun z => z), K.cell (cell_blk S.out.1 5 (v := .slice (some ⟨lb, lo, none⟩) ln lc) rfl) (fun z => z), K.cell (cell_blk S.out.2.1 0 (v := .int .i64 kind) rfl) (fun z => z), K.cell (cell_blk S.out.2.1 1 (v := .int .i64 a) rfl) (fun z => z), K.cell (cell_blk S.out.2.1 2 (v := .int .i64 b) rfl) (fun z => z), K.cell (cell_blk S.out.2.1 3 (v := .string key) rfl) (fun z => z), K.cell (cell_blk S.out.2.1 4 (v := .slice va' vn vc') rfl) (fun z => z), K.cell (cell_blk S.out.2.1 5 (v := .slice la' ln lc') rfl) (fun z => z), (S.out.2.2.trans K (fun _ _ z => z)).cell HM.out.1 (fun z => z)⟩
  have KD : Hid (Kept (fun _ => False) W W.drew) := (Kept.refl _ _).drew
  refine wp_region_held_drew (S := (fun V => V.cell? ⟨w.heap.size, 0, none⟩ = some (.int .i64 kind) ∧ V.cell? ⟨w.heap.size, 1, none⟩ = some (.int .i64 a) ∧ V.cell? ⟨w.heap.size, 2, none⟩ = some (.int .i64 b) ∧ V.cell? ⟨w.heap.size, 3, none⟩ = some (.string key) ∧ V.cell? ⟨w.heap.size, 4, none⟩ = some (.slice (some ⟨vb, vo, none⟩) vn vc) ∧ V.cell? ⟨w.heap.size, 5, none⟩ = some (.slice (some ⟨lb, lo, none⟩) ln lc) ∧ V.cell? ⟨w.heap.size + 1, 0, none⟩ = some (.int .i64 kind) ∧ V.cell? ⟨w.heap.size + 1, 1, none⟩ = some (.int .i64 a) ∧ V.cell? ⟨w.heap.size + 1, 2, none⟩ = some (.int .i64 b) ∧ V.cell? ⟨w.heap.size + 1, 3, none⟩ = some (.string key) ∧ V.cell? ⟨w.heap.size + 1, 4, none⟩ = some (.slice va' vn vc') ∧ V.cell? ⟨w.heap.size + 1, 5, none⟩ = some (.slice la' ln lc') ∧ V.cell? ⟨lb, lo + ln, none⟩ = some (.int .i64 (-77)))) (by kernel_rfl) ?_ (fun hHeld => ?_)
  · exact MK.out _ KD.out
  refine wpAnyH_take (i := 0) (oi := { dst := some 10, op := Go.Op.load 38 (Go.Operand.tmp 2), type := 38, pos := "law.go:42", after := #[], guard := none }) (v := .agg #[.int .i64 kind, .int .i64 a, .int .i64 b, .string key, .slice (some ⟨vb, vo, none⟩) vn vc, .slice (some ⟨lb, lo, none⟩) ln lc]) rfl (by kernel_rfl) (by kernel_rfl) (by kernel_rfl) (fun _ _ _ h => h) (Or.inl ⟨by rfl, ?_⟩) (by assumption) ?_
  · intro w9 hSw
    (try dsimp only at hSw)
    go_simp
  (try simp only [Act.put, List.setIfInBounds_toArray, List.set_cons_zero, List.set_cons_succ])
  refine wpAnyH_take (i := 1) (oi := { dst := some 11, op := Go.Op.load 38 (Go.Operand.tmp 3), type := 38, pos := "law.go:42", after := #[], guard := none }) (v := .agg #[.int .i64 kind, .int .i64 a, .int .i64 b, .string key, .slice va' vn vc', .slice la' ln lc']) rfl (by kernel_rfl) (by kernel_rfl) (by kernel_rfl) (fun _ _ _ h => h) (Or.inl ⟨by rfl, ?_⟩) (by assumption) ?_
  · intro w9 hSw
    (try dsimp only at hSw)
    go_simp
  (try simp only [Act.put, List.setIfInBounds_toArray, List.set_cons_zero, List.set_cons_succ])
  refine wpAnyH_ready (rs := [2]) (by kernel_rfl) (by simp) ?_
  refine (AllReadyH.cons (o := { dst := some 12, op := Go.Op.call { callee := Go.Callee.value (Go.Operand.func 37), args := #[Go.Operand.tmp 10, Go.Operand.tmp 11], argTypes := #[38, 38] }, type := 4, pos := "law.go:42", after := #[{ on := 0, ground := Go.Ground.data }, { on := 1, ground := Go.Ground.data }], guard := none }) rfl (fun K hK => ?_) AllReadyH.nil)
  go_simp
  refine (C.out _ (S.out.2.2.trans KD.out (fun _ _ z => z))).mono ?_
  rintro o w6 ⟨rfl, K6⟩
  have K7 : Hid (Kept (fun _ => False) W w6) := KD.out.trans K6 (fun _ _ z => z)
  clear K6
  refine hK.out _ _ ?_ (fun hHeld => ?_)
  · exact MK.out _ K7.out
  clear hK K
  (try simp only [Act.put, List.setIfInBounds_toArray, List.set_cons_zero, List.set_cons_succ])
  refine wpAnyH_take (i := 3) (oi := { dst := some 13, op := Go.Op.unOp Go.UnOp.not 4 (Go.Operand.tmp 12), type := 4, pos := "law.go:42", after := #[{ on := 2, ground := Go.Ground.data }], guard := none }) (v := .bool false) rfl (by kernel_rfl) (by kernel_rfl) (by kernel_rfl) (fun _ _ _ h => h) (Or.inl ⟨by rfl, ?_⟩) (by assumption) ?_
  · intro w9 hSw
    (try dsimp only at hSw)
    go_simp
  (try simp only [Act.put, List.setIfInBounds_toArray, List.set_cons_zero, List.set_cons_succ])
  refine wpAnyH_take (i := 4) (oi := { dst := some 14, op := Go.Op.move (Go.Operand.tmp 13), type := 4, pos := "law.go:42", after := #[{ on := 3, ground := Go.Ground.data }, { on := 2, ground := Go.Ground.chain }], guard := none }) (v := .bool false) rfl (by kernel_rfl) (by kernel_rfl) (by kernel_rfl) (fun _ _ _ h => h) (Or.inl ⟨by rfl, ?_⟩) (by assumption) ?_
  · intro w9 hSw
    (try dsimp only at hSw)
    go_simp
  (try simp only [Act.put, List.setIfInBounds_toArray, List.set_cons_zero, List.set_cons_succ])
  refine wpAnyH_take (i := 5) (oi := { dst := some 15, op := Go.Op.fieldAddr 38 (Go.Operand.tmp 2) 5, type := 0, pos := "law.go:42", after := #[{ on := 4, ground := Go.Ground.guard }], guard := some (4, false) }) (v := .pointer (some ⟨w.heap.size, 5, none⟩)) rfl (by kernel_rfl) (by kernel_rfl) (by kernel_rfl) (fun _ _ _ h => h) (Or.inl ⟨by rfl, ?_⟩) (by assumption) ?_
  · intro w9 hSw
    (try dsimp only at hSw)
    go_simp
  (try simp only [Act.put, List.setIfInBounds_toArray, List.set_cons_zero, List.set_cons_succ])
  refine wpAnyH_take (i := 6) (oi := { dst := some 16, op := Go.Op.load 36 (Go.Operand.tmp 15), type := 36, pos := "law.go:42", after := #[{ on := 5, ground := Go.Ground.data }, { on := 4, ground := Go.Ground.guard }], guard := some (4, false) }) (v := .slice (some ⟨lb, lo, none⟩) ln lc) rfl (by kernel_rfl) (by kernel_rfl) (by kernel_rfl) (fun _ _ _ h => h) (Or.inl ⟨by rfl, ?_⟩) (by assumption) ?_
  · intro w9 hSw
    (try dsimp only at hSw)
    go_simp
  (try simp only [Act.put, List.setIfInBounds_toArray, List.set_cons_zero, List.set_cons_succ])
  refine wpAnyH_take (i := 7) (oi := { dst := some 17, op := Go.Op.fieldAddr 38 (Go.Operand.tmp 3) 5, type := 0, pos := "law.go:42", after := #[{ on := 4, ground := Go.Ground.guard }], guard := some (4, false) }) (v := .pointer (some ⟨w.heap.size + 1, 5, none⟩)) rfl (by kernel_rfl) (by kernel_rfl) (by kernel_rfl) (fun _ _ _ h => h) (Or.inl ⟨by rfl, ?_⟩) (by assumption) ?_
  · intro w9 hSw
    (try dsimp only at hSw)
    go_simp
  (try simp only [Act.put, List.setIfInBounds_toArray, List.set_cons_zero, List.set_cons_succ])
  refine wpAnyH_take (i := 8) (oi := { dst := some 18, op := Go.Op.load 36 (Go.Operand.tmp 17), type := 36, pos := "law.go:42", after := #[{ on := 7, ground := Go.Ground.data }, { on := 4, ground := Go.Ground.guard }], guard := some (4, false) }) (v := .slice la' ln lc') rfl (by kernel_rfl) (by kernel_rfl) (by kernel_rfl) (fun _ _ _ h => h) (Or.inl ⟨by rfl, ?_⟩) (by assumption) ?_
  · intro w9 hSw
    (try dsimp only at hSw)
    go_simp
  (try simp only [Act.put, List.setIfInBounds_toArray, List.set_cons_zero, List.set_cons_succ])
  refine wpAnyH_take (i := 9) (oi := { dst := some 19, op := Go.Op.call { callee := Go.Callee.builtin Go.Builtin.len, args := #[Go.Operand.tmp 18], argTypes := #[36] }, type := 3, pos := "law.go:42", after := #[{ on := 8, ground := Go.Ground.data }, { on := 4, ground := Go.Ground.guard }], guard := some (4, false) }) (v := .int .i64 (ln : Int)) rfl (by kernel_rfl) (by kernel_rfl) (by kernel_rfl) (fun _ _ _ h => h) (Or.inl ⟨by rfl, ?_⟩) (by assumption) ?_
  · intro w9 hSw
    (try dsimp only at hSw)
    go_simp
  (try simp only [Act.put, List.setIfInBounds_toArray, List.set_cons_zero, List.set_cons_succ])
  refine wpAnyH_take (i := 10) (oi := { dst := some 20, op := Go.Op.binOp Go.BinOp.add 3 (Go.Operand.tmp 19) (Go.Operand.const (Go.Value.int Go.IntKind.i64 1)) 3, type := 3, pos := "law.go:42", after := #[{ on := 9, ground := Go.Ground.data }, { on := 4, ground := Go.Ground.guard }], guard := some (4, false) }) (v := .int .i64 ((ln : Int) + 1)) rfl (by kernel_rfl) (by kernel_rfl) (by kernel_rfl) (fun _ _ _ h => h) (Or.inl ⟨by rfl, ?_⟩) (by assumption) ?_
  · intro w9 hSw
    (try dsimp only at hSw)
    go_simp
  (try simp only [Act.put, List.setIfInBounds_toArray, List.set_cons_zero, List.set_cons_succ])
  refine wpAnyH_take (i := 11) (oi := { dst := some 21, op := Go.Op.slice 36 (Go.Operand.tmp 16) none (some (Go.Operand.tmp 20)) none, type := 36, pos := "law.go:42", after := #[{ on := 6, ground := Go.Ground.data }, { on := 10, ground := Go.Ground.data }, { on := 4, ground := Go.Ground.guard }], guard := some (4, false) }) (v := .slice (some ⟨lb, lo, none⟩) (ln + 1) lc) rfl (by kernel_rfl) (by kernel_rfl) (by kernel_rfl) (fun _ _ _ h => h) (Or.inl ⟨by rfl, ?_⟩) (by assumption) ?_
  · intro w9 hSw
    (try dsimp only at hSw)
    go_simp
  (try simp only [Act.put, List.setIfInBounds_toArray, List.set_cons_zero, List.set_cons_succ])
  refine wpAnyH_take (i := 12) (oi := { dst := some 22, op := Go.Op.fieldAddr 38 (Go.Operand.tmp 3) 5, type := 0, pos := "law.go:42", after := #[{ on := 4, ground := Go.Ground.guard }], guard := some (4, false) }) (v := .pointer (some ⟨w.heap.size + 1, 5, none⟩)) rfl (by kernel_rfl) (by kernel_rfl) (by kernel_rfl) (fun _ _ _ h => h) (Or.inl ⟨by rfl, ?_⟩) (by assumption) ?_
  · intro w9 hSw
    (try dsimp only at hSw)
    go_simp
  (try simp only [Act.put, List.setIfInBounds_toArray, List.set_cons_zero, List.set_cons_succ])
  refine wpAnyH_take (i := 13) (oi := { dst := some 23, op := Go.Op.load 36 (Go.Operand.tmp 22), type := 36, pos := "law.go:42", after := #[{ on := 12, ground := Go.Ground.data }, { on := 4, ground := Go.Ground.guard }], guard := some (4, false) }) (v := .slice la' ln lc') rfl (by kernel_rfl) (by kernel_rfl) (by kernel_rfl) (fun _ _ _ h => h) (Or.inl ⟨by rfl, ?_⟩) (by assumption) ?_
  · intro w9 hSw
    (try dsimp only at hSw)
    go_simp
  (try simp only [Act.put, List.setIfInBounds_toArray, List.set_cons_zero, List.set_cons_succ])
  refine wpAnyH_take (i := 14) (oi := { dst := some 24, op := Go.Op.call { callee := Go.Callee.builtin Go.Builtin.len, args := #[Go.Operand.tmp 23], argTypes := #[36] }, type := 3, pos := "law.go:42", after := #[{ on := 13, ground := Go.Ground.data }, { on := 4, ground := Go.Ground.guard }], guard := some (4, false) }) (v := .int .i64 (ln : Int)) rfl (by kernel_rfl) (by kernel_rfl) (by kernel_rfl) (fun _ _ _ h => h) (Or.inl ⟨by rfl, ?_⟩) (by assumption) ?_
  · intro w9 hSw
    (try dsimp only at hSw)
    go_simp
  (try simp only [Act.put, List.setIfInBounds_toArray, List.set_cons_zero, List.set_cons_succ])
  refine wpAnyH_take (i := 15) (oi := { dst := some 25, op := Go.Op.indexAddr 36 (Go.Operand.tmp 21) (Go.Operand.tmp 24), type := 0, pos := "law.go:42", after := #[{ on := 11, ground := Go.Ground.data }, { on := 14, ground := Go.Ground.data }, { on := 4, ground := Go.Ground.guard }], guard := some (4, false) }) (v := .pointer (some ⟨lb, lo + ln, none⟩)) rfl (by kernel_rfl) (by kernel_rfl) (by kernel_rfl) (fun _ _ _ h => h) (Or.inl ⟨by rfl, ?_⟩) (by assumption) ?_
  · intro w9 hSw
    (try dsimp only at hSw)
    go_simp
  (try simp only [Act.put, List.setIfInBounds_toArray, List.set_cons_zero, List.set_cons_succ])
  refine wpAnyH_take (i := 16) (oi := { dst := some 26, op := Go.Op.load 3 (Go.Operand.tmp 25), type := 3, pos := "law.go:42", after := #[{ on := 15, ground := Go.Ground.data }, { on := 4, ground := Go.Ground.guard }], guard := some (4, false) }) (v := .int .i64 (-77)) rfl (by kernel_rfl) (by kernel_rfl) (by kernel_rfl) (fun _ _ _ h => h) (Or.inl ⟨by rfl, ?_⟩) (by assumption) ?_
  · intro w9 hSw
    (try dsimp only at hSw)
    go_simp
  (try simp only [Act.put, List.setIfInBounds_toArray, List.set_cons_zero, List.set_cons_succ])
  refine wpAnyH_take (i := 17) (oi := { dst := some 27, op := Go.Op.binOp Go.BinOp.neq 3 (Go.Operand.tmp 26) (Go.Operand.const (Go.Value.int Go.IntKind.i64 (-77))) 3, type := 4, pos := "law.go:42", after := #[{ on := 16, ground := Go.Ground.data }, { on := 4, ground := Go.Ground.guard }], guard := some (4, false) }) (v := .bool false) rfl (by kernel_rfl) (by kernel_rfl) (by kernel_rfl) (fun _ _ _ h => h) (Or.inl ⟨by rfl, ?_⟩) (by assumption) ?_
  · intro w9 hSw
    (try dsimp only at hSw)
    go_simp
  (try simp only [Act.put, List.setIfInBounds_toArray, List.set_cons_zero, List.set_cons_succ])
  refine wpAnyH_take (i := 18) (oi := { dst := some 28, op := Go.Op.pick (Go.Operand.tmp 14) (Go.Operand.const (Go.Value.bool true)) (Go.Operand.tmp 27), type := 4, pos := "law.go:42", after := #[{ on := 4, ground := Go.Ground.data }, { on := 17, ground := Go.Ground.data }], guard := none }) (v := .bool false) rfl (by kernel_rfl) (by kernel_rfl) (by kernel_rfl) (fun _ _ _ h => h) (Or.inl ⟨by rfl, ?_⟩) (by assumption) ?_
  · intro w9 hSw
    (try dsimp only at hSw)
    go_simp
  (try simp only [Act.put, List.setIfInBounds_toArray, List.set_cons_zero, List.set_cons_succ])
  refine wpAnyH_done (by kernel_rfl) ?_ _
  clear hHeld
  have SS : Hid (w6.heap[w.heap.size]? = some (.cells #[.int .i64 kind, .int .i64 a, .int .i64 b, .string key, .slice (some ⟨vb, vo, none⟩) vn vc, .slice (some ⟨lb, lo, none⟩) ln lc] 38 (0, 0)) ∧ Kept (fun _ => False) w w6) := ⟨K7.out.get S.out.1 (fun z => z), S.out.2.2.trans K7.out (fun _ _ z => z)⟩
  have y4 := cell_blk SS.out.1 4 (v := .slice (some ⟨vb, vo, none⟩) vn vc) rfl
  have m1 := SS.out.2.cell HM.out.2.1 (fun z => z)
  have m2 := SS.out.2.cell HM.out.2.2 (fun z => z)
  clear MK KD K7 S C
  go_wp2_with fail
  go_ret
  exact ⟨by first | rfl | simp, SS.out.2⟩
end Go.Proofs.YtonfefhegghapaaDoor
