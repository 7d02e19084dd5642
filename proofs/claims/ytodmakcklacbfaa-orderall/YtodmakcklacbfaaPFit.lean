import Derived.Test.YtodmakcklacbfaaPSmallJ
namespace Go.Proofs.Ytodmakcklacbfaa
open Go.RowKit 

theorem ba_ne {a b : ByteArray} (h : ¬ a = b) : a.toList ≠ b.toList := by
  rw [ba_toList, ba_toList]
  intro z
  apply h
  cases a
  cases b
  congr 1
  exact Array.toList_inj.1 z
/-- Calls of one key, as a history has them. -/
def FitL (ms : List Cm) : Prop := ∀ m ∈ ms, (∀ m0, ms[0]? = some m0 → m.key = m0.key) ∧ m.fit = true
set_option maxRecDepth 100000 in
set_option maxHeartbeats 4000000 in
theorem oFits {w : World} {p0 : Option Addr} {n c0 : Nat} {ms : List Cm} (cr : CRd w p0 n c0 ms) : Calls Try.prog 28 #[.slice p0 n c0] w (RetB fun v w' => (v = true ↔ FitL ms) ∧ Kept (fun _ => False) w w') := by
  have rm := cr.room
  have sm := cr.small
  unfold maxLen at sm
  have H : Hid (CRd w p0 n c0 ms) := cr
  have L0 : Hid (Kept (fun _ => False) w w ∧ ∀ m ∈ ms.take 0, (∀ m0, ms[0]? = some m0 → m.key = m0.key) ∧ m.fit = true) := ⟨Kept.refl _ _, fun m hm => absurd hm (by simp)⟩
  clear cr
  go_enter Try.func28, Try.ntmps28
  go_wp2_with fail
  go_loopw [4, 7] (fun _ u7 wy => ∃ i : Nat, u7 = .int .i64 (i : Int) ∧ i ≤ n ∧ Hid (Kept (fun _ => False) w wy ∧ ∀ m ∈ ms.take i, (∀ m0, ms[0]? = some m0 → m.key = m0.key) ∧ m.fit = true)) (fun _ u7 _ => n - (intOf u7).toNat)
  case atStart => exact ⟨0, rfl, Nat.zero_le _, L0⟩
  case round =>
    obtain ⟨i, rfl, hi, S⟩ := hrel
    clear L0
    obtain ⟨wo, hwo⟩ : ∃ wo, wo = wr := ⟨_, rfl⟩
    rw [← hwo] at S ⊢
    clear hwo
    by_cases hlt : i < n
    · have i1 : (i : Int) < (n : Int) := by omega
      have z1 : (0 : Int) < (n : Int) := by omega
      have n0 : ¬ n = 0 := by omega
      obtain ⟨b8, off8, m, rfl, hm, y0, y1, y2, y3, y4, y5, y6, y7, y8, y9, y10, _⟩ := (H.out.k0 S.out.1).at hlt
      obtain ⟨b7, off7, m0, e7, hm0, _, _, _, z3, _⟩ := (H.out.k0 S.out.1).at (show 0 < n by omega)
      have e7 : b8 = b7 ∧ off8 = off7 := by simpa using e7
      obtain ⟨rfl, rfl⟩ := e7
      rw [Nat.zero_mul, Nat.add_zero] at z3
      obtain ⟨wd, hW⟩ : ∃ wd, wd = wo.alloc (.cells m.cs 38) := ⟨_, rfl⟩
      obtain ⟨D, hD⟩ : ∃ D, D = wo.heap.size := ⟨_, rfl⟩
      have KW : Kept (fun _ => False) wo wd := by rw [hW]; exact (Kept.refl _ _).alloc _
      have T : Hid (wd.heap[D]? = some (.cells m.cs 38 (0, 0)) ∧ Kept (fun _ => False) w wd ∧ wd.cell? ⟨b8, off8 + 3, none⟩ = some (.string m0.key)) := ⟨by rw [hW, hD]; exact alloc_new _ _, S.out.1.trans KW (fun _ _ z => z), KW.cell z3 (fun z => z)⟩
      have EWH : Hid (wd = wo.alloc (.cells #[.int .i64 m.client, .int .i64 m.op, .bool m.put, .string m.key, .slice m.va m.vn m.vc, .int .i64 m.st, .int .i64 m.frm, .int .i64 m.to, .bool m.opn, .int .i64 m.tx, .int .i64 m.ty] 38) ∧ D = wo.heap.size) := ⟨hW, hD⟩
      have HM : Hid (ms[i]? = some m ∧ ms[0]? = some m0) := ⟨hm, hm0⟩
      clear hW hD KW hm hm0
      go_upto_region 4 with fail
      rw [← EWH.out.1, ← EWH.out.2]
      clear EWH y0 y1 y2 y3 y4 y5 y6 y7 y8 y9 y10 z3
      have SH : Hid (∀ V, Kept (fun _ => False) wd V → V.cell? ⟨D, 0, none⟩ = some (.int .i64 m.client) ∧ V.cell? ⟨D, 1, none⟩ = some (.int .i64 m.op) ∧ V.cell? ⟨D, 2, none⟩ = some (.bool m.put) ∧ V.cell? ⟨D, 3, none⟩ = some (.string m.key) ∧ V.cell? ⟨D, 4, none⟩ = some (.slice m.va m.vn m.vc) ∧ V.cell? ⟨D, 5, none⟩ = some (.int .i64 m.st) ∧ V.cell? ⟨D, 6, none⟩ = some (.int .i64 m.frm) ∧ V.cell? ⟨D, 7, none⟩ = some (.int .i64 m.to) ∧ V.cell? ⟨D, 8, none⟩ = some (.bool m.opn) ∧ V.cell? ⟨D, 9, none⟩ = some (.int .i64 m.tx) ∧ V.cell? ⟨D, 10, none⟩ = some (.int .i64 m.ty) ∧ V.cell? ⟨b8, off8 + 3, none⟩ = some (.string m0.key)) := fun V kv => by
        have B := kv.get T.out.1 (fun z => z)
        exact ⟨cell_blk B 0 rfl, cell_blk B 1 rfl, cell_blk B 2 rfl, cell_blk B 3 rfl, cell_blk B 4 rfl, cell_blk B 5 rfl, cell_blk B 6 rfl, cell_blk B 7 rfl, cell_blk B 8 rfl, cell_blk B 9 rfl, cell_blk B 10 rfl, kv.cell T.out.2.2 (fun z => z)⟩
      have kd : Kept (fun _ => False) wd wd.drew := (Kept.refl _ _).drew
      obtain ⟨fv, hfv⟩ : ∃ fv, fv = m.fit := ⟨_, rfl⟩
      have RF : Hid (∀ V, Kept (fun _ => False) wd V → Calls Try.prog 60 #[.agg #[.int .i64 m.client, .int .i64 m.op, .bool m.put, .string m.key, .slice m.va m.vn m.vc, .int .i64 m.st, .int .i64 m.frm, .int .i64 m.to, .bool m.opn, .int .i64 m.tx, .int .i64 m.ty]] V fun o w' => o = .returned (.bool fv) ∧ Kept (fun _ => False) V w') := fun V _ => by
        rw [hfv]
        exact oFit m V
      have HF : Hid (fv = m.fit) := hfv
      clear hfv
      by_cases hk : m.key = m0.key
      · have hk1 : (m.key.toList == m0.key.toList) = true := by rw [hk]; simp
        have HK : Hid (m.key = m0.key) := hk
        clear hk
        cases fv
        · refine wp_region_held_drew (S := (fun V => V.cell? ⟨D, 0, none⟩ = some (.int .i64 m.client) ∧ V.cell? ⟨D, 1, none⟩ = some (.int .i64 m.op) ∧ V.cell? ⟨D, 2, none⟩ = some (.bool m.put) ∧ V.cell? ⟨D, 3, none⟩ = some (.string m.key) ∧ V.cell? ⟨D, 4, none⟩ = some (.slice m.va m.vn m.vc) ∧ V.cell? ⟨D, 5, none⟩ = some (.int .i64 m.st) ∧ V.cell? ⟨D, 6, none⟩ = some (.int .i64 m.frm) ∧ V.cell? ⟨D, 7, none⟩ = some (.int .i64 m.to) ∧ V.cell? ⟨D, 8, none⟩ = some (.bool m.opn) ∧ V.cell? ⟨D, 9, none⟩ = some (.int .i64 m.tx) ∧ V.cell? ⟨D, 10, none⟩ = some (.int .i64 m.ty) ∧ V.cell? ⟨b8, off8 + 3, none⟩ = some (.string m0.key))) (by kernel_rfl) ?_ (fun hHeld => ?_)
          · exact SH.out _ kd
          refine wpAnyH_take (i := 0) (oi := { dst := some 11, op := Op.fieldAddr 38 (Operand.tmp 4) 3, type := 0, pos := "order.go:23", after := #[], guard := none }) (v := .pointer (some ⟨D, 3, none⟩)) rfl (by kernel_rfl) (by kernel_rfl) (by kernel_rfl) (fun _ _ _ h => h) (Or.inl ⟨by rfl, ?_⟩) (by assumption) ?_
          · intro w9 hSw
            (try dsimp only at hSw)
            go_simp
          (try simp only [Act.put, List.setIfInBounds_toArray, List.set_cons_zero, List.set_cons_succ])
          refine wpAnyH_take (i := 1) (oi := { dst := some 12, op := Op.load 9 (Operand.tmp 11), type := 9, pos := "order.go:23", after := #[{ on := 0, ground := Ground.data }], guard := none }) (v := .string m.key) rfl (by kernel_rfl) (by kernel_rfl) (by kernel_rfl) (fun _ _ _ h => h) (Or.inl ⟨by rfl, ?_⟩) (by assumption) ?_
          · intro w9 hSw
            (try dsimp only at hSw)
            go_simp
          (try simp only [Act.put, List.setIfInBounds_toArray, List.set_cons_zero, List.set_cons_succ])
          refine wpAnyH_take (i := 2) (oi := { dst := some 13, op := Op.move (Operand.tmp 0), type := 27, pos := "order.go:23", after := #[], guard := none }) (v := .slice (some ⟨b8, off8, none⟩) n c0) rfl (by kernel_rfl) (by kernel_rfl) (by kernel_rfl) (fun _ _ _ h => h) (Or.inl ⟨by rfl, ?_⟩) (by assumption) ?_
          · intro w9 hSw
            (try dsimp only at hSw)
            go_simp
          (try simp only [Act.put, List.setIfInBounds_toArray, List.set_cons_zero, List.set_cons_succ])
          refine wpAnyH_take (i := 3) (oi := { dst := some 14, op := Op.indexAddr 27 (Operand.tmp 13) (Operand.const (Value.int IntKind.i64 0)), type := 0, pos := "order.go:23", after := #[{ on := 2, ground := Ground.data }], guard := none }) (v := .pointer (some ⟨b8, off8, none⟩)) rfl (by kernel_rfl) (by kernel_rfl) (by kernel_rfl) (fun _ _ _ h => h) (Or.inl ⟨by rfl, ?_⟩) (by assumption) ?_
          · intro w9 hSw
            (try dsimp only at hSw)
            go_simp
          (try simp only [Act.put, List.setIfInBounds_toArray, List.set_cons_zero, List.set_cons_succ])
          refine wpAnyH_take (i := 4) (oi := { dst := some 15, op := Op.fieldAddr 38 (Operand.tmp 14) 3, type := 0, pos := "order.go:23", after := #[{ on := 3, ground := Ground.data }], guard := none }) (v := .pointer (some ⟨b8, off8 + 3, none⟩)) rfl (by kernel_rfl) (by kernel_rfl) (by kernel_rfl) (fun _ _ _ h => h) (Or.inl ⟨by rfl, ?_⟩) (by assumption) ?_
          · intro w9 hSw
            (try dsimp only at hSw)
            go_simp
          (try simp only [Act.put, List.setIfInBounds_toArray, List.set_cons_zero, List.set_cons_succ])
          refine wpAnyH_take (i := 5) (oi := { dst := some 16, op := Op.load 9 (Operand.tmp 15), type := 9, pos := "order.go:23", after := #[{ on := 4, ground := Ground.data }], guard := none }) (v := .string m0.key) rfl (by kernel_rfl) (by kernel_rfl) (by kernel_rfl) (fun _ _ _ h => h) (Or.inl ⟨by rfl, ?_⟩) (by assumption) ?_
          · intro w9 hSw
            (try dsimp only at hSw)
            go_simp
          (try simp only [Act.put, List.setIfInBounds_toArray, List.set_cons_zero, List.set_cons_succ])
          refine wpAnyH_take (i := 6) (oi := { dst := some 17, op := Op.binOp BinOp.neq 9 (Operand.tmp 12) (Operand.tmp 16) 9, type := 4, pos := "order.go:23", after := #[{ on := 1, ground := Ground.data }, { on := 5, ground := Ground.data }], guard := none }) (v := .bool false) rfl (by kernel_rfl) (by kernel_rfl) (by kernel_rfl) (fun _ _ _ h => h) (Or.inl ⟨by rfl, ?_⟩) (by assumption) ?_
          · intro w9 hSw
            (try dsimp only at hSw)
            go_simp
          (try simp only [Act.put, List.setIfInBounds_toArray, List.set_cons_zero, List.set_cons_succ])
          refine wpAnyH_take (i := 7) (oi := { dst := some 18, op := Op.move (Operand.tmp 17), type := 4, pos := "order.go:23", after := #[{ on := 6, ground := Ground.data }], guard := none }) (v := .bool false) rfl (by kernel_rfl) (by kernel_rfl) (by kernel_rfl) (fun _ _ _ h => h) (Or.inl ⟨by rfl, ?_⟩) (by assumption) ?_
          · intro w9 hSw
            (try dsimp only at hSw)
            go_simp
          (try simp only [Act.put, List.setIfInBounds_toArray, List.set_cons_zero, List.set_cons_succ])
          refine wpAnyH_take (i := 8) (oi := { dst := some 19, op := Op.load 38 (Operand.tmp 4), type := 38, pos := "order.go:23", after := #[{ on := 7, ground := Ground.guard }], guard := some (7, false) }) (v := .agg #[.int .i64 m.client, .int .i64 m.op, .bool m.put, .string m.key, .slice m.va m.vn m.vc, .int .i64 m.st, .int .i64 m.frm, .int .i64 m.to, .bool m.opn, .int .i64 m.tx, .int .i64 m.ty]) rfl (by kernel_rfl) (by kernel_rfl) (by kernel_rfl) (fun _ _ _ h => h) (Or.inl ⟨by rfl, ?_⟩) (by assumption) ?_
          · intro w9 hSw
            (try dsimp only at hSw)
            go_simp
          (try simp only [Act.put, List.setIfInBounds_toArray, List.set_cons_zero, List.set_cons_succ])
          refine wpAnyH_ready (rs := [9]) (by kernel_rfl) (by simp) ?_
          refine (AllReadyH.cons (o := { dst := some 20, op := Op.call { callee := Callee.value (Operand.func 60), args := #[Operand.tmp 19], argTypes := #[38] }, type := 4, pos := "order.go:23", after := #[{ on := 8, ground := Ground.data }, { on := 7, ground := Ground.chain }, { on := 7, ground := Ground.guard }], guard := some (7, false) }) rfl (fun K hK => ?_) AllReadyH.nil)
          go_simp
          refine (RF.out _ kd).mono ?_
          rintro o w5 ⟨rfl, KX⟩
          have K5 : Kept (fun _ => False) wd w5 := Kept.trans kd KX (fun _ _ z => z)
          refine hK.out _ _ ?_ (fun hHeld => ?_)
          · exact SH.out w5 K5
          clear hK K KX
          (try simp only [Act.put, List.setIfInBounds_toArray, List.set_cons_zero, List.set_cons_succ])
          refine wpAnyH_take (i := 10) (oi := { dst := some 21, op := Op.unOp UnOp.not 4 (Operand.tmp 20), type := 4, pos := "order.go:23", after := #[{ on := 9, ground := Ground.data }, { on := 7, ground := Ground.guard }], guard := some (7, false) }) (v := .bool true) rfl (by kernel_rfl) (by kernel_rfl) (by kernel_rfl) (fun _ _ _ h => h) (Or.inl ⟨by rfl, ?_⟩) (by assumption) ?_
          · intro w9 hSw
            (try dsimp only at hSw)
            go_simp
          (try simp only [Act.put, List.setIfInBounds_toArray, List.set_cons_zero, List.set_cons_succ])
          refine wpAnyH_take (i := 11) (oi := { dst := some 22, op := Op.pick (Operand.tmp 18) (Operand.const (Value.bool true)) (Operand.tmp 21), type := 4, pos := "order.go:23", after := #[{ on := 7, ground := Ground.data }, { on := 10, ground := Ground.data }], guard := none }) (v := .bool true) rfl (by kernel_rfl) (by kernel_rfl) (by kernel_rfl) (fun _ _ _ h => h) (Or.inl ⟨by rfl, ?_⟩) (by assumption) ?_
          · intro w9 hSw
            (try dsimp only at hSw)
            go_simp
          (try simp only [Act.put, List.setIfInBounds_toArray, List.set_cons_zero, List.set_cons_succ])
          refine wpAnyH_done (by kernel_rfl) ?_ _
          go_wp2_with fail
          go_ret
          refine RetB.mk false rfl ⟨⟨fun z => (by cases z), fun z => ?_⟩, T.out.2.1.trans K5 (fun _ _ z => z)⟩
          have h1 := (z m (List.mem_of_getElem? HM.out.1)).2
          rw [← HF.out] at h1
          cases h1
        · refine wp_region_held_drew (S := (fun V => V.cell? ⟨D, 0, none⟩ = some (.int .i64 m.client) ∧ V.cell? ⟨D, 1, none⟩ = some (.int .i64 m.op) ∧ V.cell? ⟨D, 2, none⟩ = some (.bool m.put) ∧ V.cell? ⟨D, 3, none⟩ = some (.string m.key) ∧ V.cell? ⟨D, 4, none⟩ = some (.slice m.va m.vn m.vc) ∧ V.cell? ⟨D, 5, none⟩ = some (.int .i64 m.st) ∧ V.cell? ⟨D, 6, none⟩ = some (.int .i64 m.frm) ∧ V.cell? ⟨D, 7, none⟩ = some (.int .i64 m.to) ∧ V.cell? ⟨D, 8, none⟩ = some (.bool m.opn) ∧ V.cell? ⟨D, 9, none⟩ = some (.int .i64 m.tx) ∧ V.cell? ⟨D, 10, none⟩ = some (.int .i64 m.ty) ∧ V.cell? ⟨b8, off8 + 3, none⟩ = some (.string m0.key))) (by kernel_rfl) ?_ (fun hHeld => ?_)
          · exact SH.out _ kd
          refine wpAnyH_take (i := 0) (oi := { dst := some 11, op := Op.fieldAddr 38 (Operand.tmp 4) 3, type := 0, pos := "order.go:23", after := #[], guard := none }) (v := .pointer (some ⟨D, 3, none⟩)) rfl (by kernel_rfl) (by kernel_rfl) (by kernel_rfl) (fun _ _ _ h => h) (Or.inl ⟨by rfl, ?_⟩) (by assumption) ?_
          · intro w9 hSw
            (try dsimp only at hSw)
            go_simp
          (try simp only [Act.put, List.setIfInBounds_toArray, List.set_cons_zero, List.set_cons_succ])
          refine wpAnyH_take (i := 1) (oi := { dst := some 12, op := Op.load 9 (Operand.tmp 11), type := 9, pos := "order.go:23", after := #[{ on := 0, ground := Ground.data }], guard := none }) (v := .string m.key) rfl (by kernel_rfl) (by kernel_rfl) (by kernel_rfl) (fun _ _ _ h => h) (Or.inl ⟨by rfl, ?_⟩) (by assumption) ?_
          · intro w9 hSw
            (try dsimp only at hSw)
            go_simp
          (try simp only [Act.put, List.setIfInBounds_toArray, List.set_cons_zero, List.set_cons_succ])
          refine wpAnyH_take (i := 2) (oi := { dst := some 13, op := Op.move (Operand.tmp 0), type := 27, pos := "order.go:23", after := #[], guard := none }) (v := .slice (some ⟨b8, off8, none⟩) n c0) rfl (by kernel_rfl) (by kernel_rfl) (by kernel_rfl) (fun _ _ _ h => h) (Or.inl ⟨by rfl, ?_⟩) (by assumption) ?_
          · intro w9 hSw
            (try dsimp only at hSw)
            go_simp
          (try simp only [Act.put, List.setIfInBounds_toArray, List.set_cons_zero, List.set_cons_succ])
          refine wpAnyH_take (i := 3) (oi := { dst := some 14, op := Op.indexAddr 27 (Operand.tmp 13) (Operand.const (Value.int IntKind.i64 0)), type := 0, pos := "order.go:23", after := #[{ on := 2, ground := Ground.data }], guard := none }) (v := .pointer (some ⟨b8, off8, none⟩)) rfl (by kernel_rfl) (by kernel_rfl) (by kernel_rfl) (fun _ _ _ h => h) (Or.inl ⟨by rfl, ?_⟩) (by assumption) ?_
          · intro w9 hSw
            (try dsimp only at hSw)
            go_simp
          (try simp only [Act.put, List.setIfInBounds_toArray, List.set_cons_zero, List.set_cons_succ])
          refine wpAnyH_take (i := 4) (oi := { dst := some 15, op := Op.fieldAddr 38 (Operand.tmp 14) 3, type := 0, pos := "order.go:23", after := #[{ on := 3, ground := Ground.data }], guard := none }) (v := .pointer (some ⟨b8, off8 + 3, none⟩)) rfl (by kernel_rfl) (by kernel_rfl) (by kernel_rfl) (fun _ _ _ h => h) (Or.inl ⟨by rfl, ?_⟩) (by assumption) ?_
          · intro w9 hSw
            (try dsimp only at hSw)
            go_simp
          (try simp only [Act.put, List.setIfInBounds_toArray, List.set_cons_zero, List.set_cons_succ])
          refine wpAnyH_take (i := 5) (oi := { dst := some 16, op := Op.load 9 (Operand.tmp 15), type := 9, pos := "order.go:23", after := #[{ on := 4, ground := Ground.data }], guard := none }) (v := .string m0.key) rfl (by kernel_rfl) (by kernel_rfl) (by kernel_rfl) (fun _ _ _ h => h) (Or.inl ⟨by rfl, ?_⟩) (by assumption) ?_
          · intro w9 hSw
            (try dsimp only at hSw)
            go_simp
          (try simp only [Act.put, List.setIfInBounds_toArray, List.set_cons_zero, List.set_cons_succ])
          refine wpAnyH_take (i := 6) (oi := { dst := some 17, op := Op.binOp BinOp.neq 9 (Operand.tmp 12) (Operand.tmp 16) 9, type := 4, pos := "order.go:23", after := #[{ on := 1, ground := Ground.data }, { on := 5, ground := Ground.data }], guard := none }) (v := .bool false) rfl (by kernel_rfl) (by kernel_rfl) (by kernel_rfl) (fun _ _ _ h => h) (Or.inl ⟨by rfl, ?_⟩) (by assumption) ?_
          · intro w9 hSw
            (try dsimp only at hSw)
            go_simp
          (try simp only [Act.put, List.setIfInBounds_toArray, List.set_cons_zero, List.set_cons_succ])
          refine wpAnyH_take (i := 7) (oi := { dst := some 18, op := Op.move (Operand.tmp 17), type := 4, pos := "order.go:23", after := #[{ on := 6, ground := Ground.data }], guard := none }) (v := .bool false) rfl (by kernel_rfl) (by kernel_rfl) (by kernel_rfl) (fun _ _ _ h => h) (Or.inl ⟨by rfl, ?_⟩) (by assumption) ?_
          · intro w9 hSw
            (try dsimp only at hSw)
            go_simp
          (try simp only [Act.put, List.setIfInBounds_toArray, List.set_cons_zero, List.set_cons_succ])
          refine wpAnyH_take (i := 8) (oi := { dst := some 19, op := Op.load 38 (Operand.tmp 4), type := 38, pos := "order.go:23", after := #[{ on := 7, ground := Ground.guard }], guard := some (7, false) }) (v := .agg #[.int .i64 m.client, .int .i64 m.op, .bool m.put, .string m.key, .slice m.va m.vn m.vc, .int .i64 m.st, .int .i64 m.frm, .int .i64 m.to, .bool m.opn, .int .i64 m.tx, .int .i64 m.ty]) rfl (by kernel_rfl) (by kernel_rfl) (by kernel_rfl) (fun _ _ _ h => h) (Or.inl ⟨by rfl, ?_⟩) (by assumption) ?_
          · intro w9 hSw
            (try dsimp only at hSw)
            go_simp
          (try simp only [Act.put, List.setIfInBounds_toArray, List.set_cons_zero, List.set_cons_succ])
          refine wpAnyH_ready (rs := [9]) (by kernel_rfl) (by simp) ?_
          refine (AllReadyH.cons (o := { dst := some 20, op := Op.call { callee := Callee.value (Operand.func 60), args := #[Operand.tmp 19], argTypes := #[38] }, type := 4, pos := "order.go:23", after := #[{ on := 8, ground := Ground.data }, { on := 7, ground := Ground.chain }, { on := 7, ground := Ground.guard }], guard := some (7, false) }) rfl (fun K hK => ?_) AllReadyH.nil)
          go_simp
          refine (RF.out _ kd).mono ?_
          rintro o w5 ⟨rfl, KX⟩
          have K5 : Kept (fun _ => False) wd w5 := Kept.trans kd KX (fun _ _ z => z)
          refine hK.out _ _ ?_ (fun hHeld => ?_)
          · exact SH.out w5 K5
          clear hK K KX
          (try simp only [Act.put, List.setIfInBounds_toArray, List.set_cons_zero, List.set_cons_succ])
          refine wpAnyH_take (i := 10) (oi := { dst := some 21, op := Op.unOp UnOp.not 4 (Operand.tmp 20), type := 4, pos := "order.go:23", after := #[{ on := 9, ground := Ground.data }, { on := 7, ground := Ground.guard }], guard := some (7, false) }) (v := .bool false) rfl (by kernel_rfl) (by kernel_rfl) (by kernel_rfl) (fun _ _ _ h => h) (Or.inl ⟨by rfl, ?_⟩) (by assumption) ?_
          · intro w9 hSw
            (try dsimp only at hSw)
            go_simp
          (try simp only [Act.put, List.setIfInBounds_toArray, List.set_cons_zero, List.set_cons_succ])
          refine wpAnyH_take (i := 11) (oi := { dst := some 22, op := Op.pick (Operand.tmp 18) (Operand.const (Value.bool true)) (Operand.tmp 21), type := 4, pos := "order.go:23", after := #[{ on := 7, ground := Ground.data }, { on := 10, ground := Ground.data }], guard := none }) (v := .bool false) rfl (by kernel_rfl) (by kernel_rfl) (by kernel_rfl) (fun _ _ _ h => h) (Or.inl ⟨by rfl, ?_⟩) (by assumption) ?_
          · intro w9 hSw
            (try dsimp only at hSw)
            go_simp
          (try simp only [Act.put, List.setIfInBounds_toArray, List.set_cons_zero, List.set_cons_succ])
          refine wpAnyH_done (by kernel_rfl) ?_ _
          go_wp2_with fail
          go_roundw
          case rel =>
            refine ⟨i + 1, by go_num, by omega, T.out.2.1.trans K5 (fun _ _ z => z), fun x hx => ?_⟩
            rw [List.take_add_one, HM.out.1] at hx
            rcases List.mem_append.1 hx with y | y
            · exact S.out.2 x y
            · have e : x = m := by simpa using y
              rw [e]
              refine ⟨fun m1 h1 => ?_, HF.out.symm⟩
              rw [HM.out.2] at h1
              injection h1 with h1
              rw [← h1]
              exact HK.out
          case measure => simp [intOf] <;> omega
      · have hk1 : (m.key.toList == m0.key.toList) = false := beq_false_of_ne (ba_ne hk)
        refine wp_region_held_drew (S := (fun V => V.cell? ⟨D, 0, none⟩ = some (.int .i64 m.client) ∧ V.cell? ⟨D, 1, none⟩ = some (.int .i64 m.op) ∧ V.cell? ⟨D, 2, none⟩ = some (.bool m.put) ∧ V.cell? ⟨D, 3, none⟩ = some (.string m.key) ∧ V.cell? ⟨D, 4, none⟩ = some (.slice m.va m.vn m.vc) ∧ V.cell? ⟨D, 5, none⟩ = some (.int .i64 m.st) ∧ V.cell? ⟨D, 6, none⟩ = some (.int .i64 m.frm) ∧ V.cell? ⟨D, 7, none⟩ = some (.int .i64 m.to) ∧ V.cell? ⟨D, 8, none⟩ = some (.bool m.opn) ∧ V.cell? ⟨D, 9, none⟩ = some (.int .i64 m.tx) ∧ V.cell? ⟨D, 10, none⟩ = some (.int .i64 m.ty) ∧ V.cell? ⟨b8, off8 + 3, none⟩ = some (.string m0.key))) (by kernel_rfl) ?_ (fun hHeld => ?_)
        · exact SH.out _ kd
        refine wpAnyH_take (i := 0) (oi := { dst := some 11, op := Op.fieldAddr 38 (Operand.tmp 4) 3, type := 0, pos := "order.go:23", after := #[], guard := none }) (v := .pointer (some ⟨D, 3, none⟩)) rfl (by kernel_rfl) (by kernel_rfl) (by kernel_rfl) (fun _ _ _ h => h) (Or.inl ⟨by rfl, ?_⟩) (by assumption) ?_
        · intro w9 hSw
          (try dsimp only at hSw)
          go_simp
        (try simp only [Act.put, List.setIfInBounds_toArray, List.set_cons_zero, List.set_cons_succ])
        refine wpAnyH_take (i := 1) (oi := { dst := some 12, op := Op.load 9 (Operand.tmp 11), type := 9, pos := "order.go:23", after := #[{ on := 0, ground := Ground.data }], guard := none }) (v := .string m.key) rfl (by kernel_rfl) (by kernel_rfl) (by kernel_rfl) (fun _ _ _ h => h) (Or.inl ⟨by rfl, ?_⟩) (by assumption) ?_
        · intro w9 hSw
          (try dsimp only at hSw)
          go_simp
        (try simp only [Act.put, List.setIfInBounds_toArray, List.set_cons_zero, List.set_cons_succ])
        refine wpAnyH_take (i := 2) (oi := { dst := some 13, op := Op.move (Operand.tmp 0), type := 27, pos := "order.go:23", after := #[], guard := none }) (v := .slice (some ⟨b8, off8, none⟩) n c0) rfl (by kernel_rfl) (by kernel_rfl) (by kernel_rfl) (fun _ _ _ h => h) (Or.inl ⟨by rfl, ?_⟩) (by assumption) ?_
        · intro w9 hSw
          (try dsimp only at hSw)
          go_simp
        (try simp only [Act.put, List.setIfInBounds_toArray, List.set_cons_zero, List.set_cons_succ])
        refine wpAnyH_take (i := 3) (oi := { dst := some 14, op := Op.indexAddr 27 (Operand.tmp 13) (Operand.const (Value.int IntKind.i64 0)), type := 0, pos := "order.go:23", after := #[{ on := 2, ground := Ground.data }], guard := none }) (v := .pointer (some ⟨b8, off8, none⟩)) rfl (by kernel_rfl) (by kernel_rfl) (by kernel_rfl) (fun _ _ _ h => h) (Or.inl ⟨by rfl, ?_⟩) (by assumption) ?_
        · intro w9 hSw
          (try dsimp only at hSw)
          go_simp
        (try simp only [Act.put, List.setIfInBounds_toArray, List.set_cons_zero, List.set_cons_succ])
        refine wpAnyH_take (i := 4) (oi := { dst := some 15, op := Op.fieldAddr 38 (Operand.tmp 14) 3, type := 0, pos := "order.go:23", after := #[{ on := 3, ground := Ground.data }], guard := none }) (v := .pointer (some ⟨b8, off8 + 3, none⟩)) rfl (by kernel_rfl) (by kernel_rfl) (by kernel_rfl) (fun _ _ _ h => h) (Or.inl ⟨by rfl, ?_⟩) (by assumption) ?_
        · intro w9 hSw
          (try dsimp only at hSw)
          go_simp
        (try simp only [Act.put, List.setIfInBounds_toArray, List.set_cons_zero, List.set_cons_succ])
        refine wpAnyH_take (i := 5) (oi := { dst := some 16, op := Op.load 9 (Operand.tmp 15), type := 9, pos := "order.go:23", after := #[{ on := 4, ground := Ground.data }], guard := none }) (v := .string m0.key) rfl (by kernel_rfl) (by kernel_rfl) (by kernel_rfl) (fun _ _ _ h => h) (Or.inl ⟨by rfl, ?_⟩) (by assumption) ?_
        · intro w9 hSw
          (try dsimp only at hSw)
          go_simp
        (try simp only [Act.put, List.setIfInBounds_toArray, List.set_cons_zero, List.set_cons_succ])
        refine wpAnyH_take (i := 6) (oi := { dst := some 17, op := Op.binOp BinOp.neq 9 (Operand.tmp 12) (Operand.tmp 16) 9, type := 4, pos := "order.go:23", after := #[{ on := 1, ground := Ground.data }, { on := 5, ground := Ground.data }], guard := none }) (v := .bool true) rfl (by kernel_rfl) (by kernel_rfl) (by kernel_rfl) (fun _ _ _ h => h) (Or.inl ⟨by rfl, ?_⟩) (by assumption) ?_
        · intro w9 hSw
          (try dsimp only at hSw)
          go_simp
        (try simp only [Act.put, List.setIfInBounds_toArray, List.set_cons_zero, List.set_cons_succ])
        refine wpAnyH_take (i := 7) (oi := { dst := some 18, op := Op.move (Operand.tmp 17), type := 4, pos := "order.go:23", after := #[{ on := 6, ground := Ground.data }], guard := none }) (v := .bool true) rfl (by kernel_rfl) (by kernel_rfl) (by kernel_rfl) (fun _ _ _ h => h) (Or.inl ⟨by rfl, ?_⟩) (by assumption) ?_
        · intro w9 hSw
          (try dsimp only at hSw)
          go_simp
        (try simp only [Act.put, List.setIfInBounds_toArray, List.set_cons_zero, List.set_cons_succ])
        refine wpAnyH_take (i := 8) (oi := { dst := some 19, op := Op.load 38 (Operand.tmp 4), type := 38, pos := "order.go:23", after := #[{ on := 7, ground := Ground.guard }], guard := some (7, false) }) (v := undef) rfl (by kernel_rfl) (by kernel_rfl) (by kernel_rfl) (fun _ _ _ h => h) (Or.inr ⟨by rfl, rfl⟩) (by assumption) ?_
        (try simp only [Act.put, List.setIfInBounds_toArray, List.set_cons_zero, List.set_cons_succ])
        refine wpAnyH_take (i := 9) (oi := { dst := some 20, op := Op.call { callee := Callee.value (Operand.func 60), args := #[Operand.tmp 19], argTypes := #[38] }, type := 4, pos := "order.go:23", after := #[{ on := 8, ground := Ground.data }, { on := 7, ground := Ground.chain }, { on := 7, ground := Ground.guard }], guard := some (7, false) }) (v := undef) rfl (by kernel_rfl) (by kernel_rfl) (by kernel_rfl) (fun _ _ _ h => h) (Or.inr ⟨by rfl, rfl⟩) (by assumption) ?_
        (try simp only [Act.put, List.setIfInBounds_toArray, List.set_cons_zero, List.set_cons_succ])
        refine wpAnyH_take (i := 10) (oi := { dst := some 21, op := Op.unOp UnOp.not 4 (Operand.tmp 20), type := 4, pos := "order.go:23", after := #[{ on := 9, ground := Ground.data }, { on := 7, ground := Ground.guard }], guard := some (7, false) }) (v := undef) rfl (by kernel_rfl) (by kernel_rfl) (by kernel_rfl) (fun _ _ _ h => h) (Or.inr ⟨by rfl, rfl⟩) (by assumption) ?_
        (try simp only [Act.put, List.setIfInBounds_toArray, List.set_cons_zero, List.set_cons_succ])
        refine wpAnyH_take (i := 11) (oi := { dst := some 22, op := Op.pick (Operand.tmp 18) (Operand.const (Value.bool true)) (Operand.tmp 21), type := 4, pos := "order.go:23", after := #[{ on := 7, ground := Ground.data }, { on := 10, ground := Ground.data }], guard := none }) (v := .bool true) rfl (by kernel_rfl) (by kernel_rfl) (by kernel_rfl) (fun _ _ _ h => h) (Or.inl ⟨by rfl, ?_⟩) (by assumption) ?_
        · intro w9 hSw
          (try dsimp only at hSw)
          go_simp
        (try simp only [Act.put, List.setIfInBounds_toArray, List.set_cons_zero, List.set_cons_succ])
        refine wpAnyH_done (by kernel_rfl) ?_ _
        go_wp2_with fail
        go_ret
        refine RetB.mk false rfl ⟨⟨fun z => (by cases z), fun z => ?_⟩, T.out.2.1.drew⟩
        exact absurd ((z m (List.mem_of_getElem? HM.out.1)).1 m0 HM.out.2) hk
    · have i1 : ¬ (i : Int) < (n : Int) := by omega
      have G : Hid (FitL ms) := by
        have := S.out.2
        rw [List.take_of_length_le (by rw [H.out.len]; omega)] at this
        exact this
      go_wp2_with fail
      go_ret
      exact RetB.mk true rfl ⟨⟨fun _ => G.out, fun _ => rfl⟩, S.out.1⟩
end Go.Proofs.Ytodmakcklacbfaa
