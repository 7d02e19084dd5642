import Derived.Test.YtodmakcklacbfaaRTakAJ
import Derived.BigQuiet
namespace Go.Proofs.Ytodmakcklacbfaa
open Go.RowKit 

set_option maxRecDepth 100000 in
set_option maxHeartbeats 8000000 in
theorem dWanted {w : World} {p0 : Option Addr} {n c0 : Nat} {ms : List Cm} (cr : CRd w p0 n c0 ms) (a b : Int) : Calls Try.prog 80 #[.slice p0 n c0, .agg #[.int .i64 a, .int .i64 b]] w fun o w' => o = .returned (.bool (wantB ms (a, b))) ∧ Kept (fun _ => False) w w' := by
  have rm := cr.room
  have sm := cr.small
  unfold maxLen at sm
  obtain ⟨W, hW⟩ : ∃ W, W = w.alloc (.cells #[.int .i64 a, .int .i64 b] 35) := ⟨_, rfl⟩
  obtain ⟨T, hT⟩ : ∃ T, T = w.heap.size := ⟨_, rfl⟩
  have H : Hid (CRd w p0 n c0 ms ∧ Kept (fun _ => False) w W ∧ W.heap[T]? = some (.cells #[.int .i64 a, .int .i64 b] 35 (0, 0))) := ⟨cr, by rw [hW]; exact (Kept.refl _ _).alloc _, by rw [hW, hT]; exact alloc_new _ _⟩
  have E : Hid (W = w.alloc (.cells #[.int .i64 a, .int .i64 b] 35) ∧ T = w.heap.size) := ⟨hW, hT⟩
  have L0 : Hid (Kept (fun _ => False) W W ∧ ∀ (j : Nat) (m : Cm), j < 0 → ms[j]? = some m → (readB m && decide (tg m = (a, b))) = false) := ⟨Kept.refl _ _, fun j m h => absurd h (by omega)⟩
  clear cr hW hT
  go_enter Try.func80, Try.ntmps80
  go_wp2_with fail
  rw [← E.out.1, ← E.out.2]
  go_loopw [5] (fun u5 wy => ∃ x : Nat, u5 = .int .i64 (x : Int) ∧ x ≤ n ∧ Hid (Kept (fun _ => False) W wy ∧ ∀ (j : Nat) (m : Cm), j < x → ms[j]? = some m → (readB m && decide (tg m = (a, b))) = false)) (fun u5 _ => n - (intOf u5).toNat)
  case atStart => exact ⟨0, rfl, Nat.zero_le _, L0⟩
  case round =>
    obtain ⟨x, rfl, hx, S⟩ := hrel
    clear L0
    obtain ⟨wo, hwo⟩ : ∃ wo, wo = wr := ⟨_, rfl⟩
    rw [← hwo] at S ⊢
    clear hwo
    by_cases hlt : x < n
    · have x1 : (x : Int) < (n : Int) := by omega
      have CR : Hid (CRd wo p0 n c0 ms) := H.out.1.k0 (H.out.2.1.trans S.out.1 (fun _ _ z => z))
      obtain ⟨b8, off8, m, rfl, hm, y0, y1, y2, y3, y4, y5, y6, y7, y8, y9, y10, _⟩ := CR.out.at hlt
      have bT := S.out.1.get H.out.2.2 (fun z => z)
      have t0 := cell_blk bT 0 (v := .int .i64 a) rfl
      have t1 := cell_blk bT 1 (v := .int .i64 b) rfl
      obtain ⟨tx, htx⟩ : ∃ tx, m.tx = tx := ⟨_, rfl⟩
      obtain ⟨ty, hty⟩ : ∃ ty, m.ty = ty := ⟨_, rfl⟩
      rw [htx] at y9
      rw [hty] at y10
      have SH : Hid (∀ V, Kept (fun _ => False) wo V → V.cell? ⟨b8, off8 + x * 11, none⟩ = some (.int .i64 m.client) ∧ V.cell? ⟨b8, off8 + x * 11 + 1, none⟩ = some (.int .i64 m.op) ∧ V.cell? ⟨b8, off8 + x * 11 + 2, none⟩ = some (.bool m.put) ∧ V.cell? ⟨b8, off8 + x * 11 + 3, none⟩ = some (.string m.key) ∧ V.cell? ⟨b8, off8 + x * 11 + 4, none⟩ = some (.slice m.va m.vn m.vc) ∧ V.cell? ⟨b8, off8 + x * 11 + 5, none⟩ = some (.int .i64 m.st) ∧ V.cell? ⟨b8, off8 + x * 11 + 6, none⟩ = some (.int .i64 m.frm) ∧ V.cell? ⟨b8, off8 + x * 11 + 7, none⟩ = some (.int .i64 m.to) ∧ V.cell? ⟨b8, off8 + x * 11 + 8, none⟩ = some (.bool m.opn) ∧ V.cell? ⟨b8, off8 + x * 11 + 9, none⟩ = some (.int .i64 tx) ∧ V.cell? ⟨b8, off8 + x * 11 + 10, none⟩ = some (.int .i64 ty) ∧ V.cell? ⟨T, 0, none⟩ = some (.int .i64 a) ∧ V.cell? ⟨T, 1, none⟩ = some (.int .i64 b)) := fun V kv => ⟨kv.cell y0 (fun z => z), kv.cell y1 (fun z => z), kv.cell y2 (fun z => z), kv.cell y3 (fun z => z), kv.cell y4 (fun z => z), kv.cell y5 (fun z => z), kv.cell y6 (fun z => z), kv.cell y7 (fun z => z), kv.cell y8 (fun z => z), kv.cell y9 (fun z => z), kv.cell y10 (fun z => z), kv.cell t0 (fun z => z), kv.cell t1 (fun z => z)⟩
      obtain ⟨rb, hrb⟩ : ∃ rb, rb = readB m := ⟨_, rfl⟩
      have RR : Hid (∀ V, Calls Try.prog 52 #[.agg #[.int .i64 m.client, .int .i64 m.op, .bool m.put, .string m.key, .slice m.va m.vn m.vc, .int .i64 m.st, .int .i64 m.frm, .int .i64 m.to, .bool m.opn, .int .i64 tx, .int .i64 ty]] V fun o w' => o = .returned (.bool rb) ∧ Kept (fun _ => False) V w') := fun V => by rw [hrb, ← htx, ← hty]; exact dRead m V
      have NX : Hid ((readB m && decide (tg m = (a, b))) = false → ∀ V, Kept (fun _ => False) wo V → Hid (Kept (fun _ => False) W V ∧ ∀ (j : Nat) (m : Cm), j < x + 1 → ms[j]? = some m → (readB m && decide (tg m = (a, b))) = false)) := fun hf V kv => ⟨S.out.1.trans kv (fun _ _ z => z), fun j m' hj hm' => by
        by_cases e : j = x
        · subst e
          rw [hm] at hm'
          rw [← Option.some.inj hm']
          exact hf
        · exact S.out.2 j m' (by omega) hm'⟩
      have YES : Hid ((readB m && decide (tg m = (a, b))) = true → ∀ V, Kept (fun _ => False) wo V → wantB ms (a, b) = true ∧ Kept (fun _ => False) w V) := fun hf V kv => by
        refine ⟨?_, (H.out.2.1.trans S.out.1 (fun _ _ z => z)).trans kv (fun _ _ z => z)⟩
        unfold wantB
        rw [List.any_eq_true]
        exact ⟨m, List.mem_of_getElem? hm, hf⟩
      have kd : Kept (fun _ => False) wo wo.drew := (Kept.refl _ _).drew
      rw [← hrb] at NX YES
      have TG : Hid (tg m = (tx, ty)) := by rw [← htx, ← hty]; rfl
      rw [TG.out] at NX YES
      clear hm hrb htx hty bT t0 t1 y0 y1 y2 y3 y4 y5 y6 y7 y8 y9 y10 S CR TG
      go_upto_region 4 with fail
      cases rb
      · replace NX : Hid (∀ V, Kept (fun _ => False) wo V → Hid (Kept (fun _ => False) W V ∧ ∀ (j : Nat) (m : Cm), j < x + 1 → ms[j]? = some m → (readB m && decide (tg m = (a, b))) = false)) := NX.out rfl
        clear YES
        refine wp_region_held_drew (S := (fun V => V.cell? ⟨b8, off8 + x * 11, none⟩ = some (.int .i64 m.client) ∧ V.cell? ⟨b8, off8 + x * 11 + 1, none⟩ = some (.int .i64 m.op) ∧ V.cell? ⟨b8, off8 + x * 11 + 2, none⟩ = some (.bool m.put) ∧ V.cell? ⟨b8, off8 + x * 11 + 3, none⟩ = some (.string m.key) ∧ V.cell? ⟨b8, off8 + x * 11 + 4, none⟩ = some (.slice m.va m.vn m.vc) ∧ V.cell? ⟨b8, off8 + x * 11 + 5, none⟩ = some (.int .i64 m.st) ∧ V.cell? ⟨b8, off8 + x * 11 + 6, none⟩ = some (.int .i64 m.frm) ∧ V.cell? ⟨b8, off8 + x * 11 + 7, none⟩ = some (.int .i64 m.to) ∧ V.cell? ⟨b8, off8 + x * 11 + 8, none⟩ = some (.bool m.opn) ∧ V.cell? ⟨b8, off8 + x * 11 + 9, none⟩ = some (.int .i64 tx) ∧ V.cell? ⟨b8, off8 + x * 11 + 10, none⟩ = some (.int .i64 ty) ∧ V.cell? ⟨T, 0, none⟩ = some (.int .i64 a) ∧ V.cell? ⟨T, 1, none⟩ = some (.int .i64 b))) (by kernel_rfl) ?_ (fun hHeld => ?_)
        · exact SH.out _ kd
        refine wpAnyH_take (i := 0) (oi := { dst := some 12, op := Go.Op.move (Go.Operand.tmp 0), type := 27, pos := "ref.go:97", after := #[], guard := none }) (v := .slice (some ⟨b8, off8, none⟩) n c0) rfl (by kernel_rfl) (by kernel_rfl) (by kernel_rfl) (fun _ _ _ h => h) (Or.inl ⟨by rfl, ?_⟩) (by assumption) ?_
        · intro w9 hSw
          (try dsimp only at hSw)
          go_simp
        (try simp only [Act.put, List.setIfInBounds_toArray, List.set_cons_zero, List.set_cons_succ])
        refine wpAnyH_take (i := 1) (oi := { dst := some 13, op := Go.Op.move (Go.Operand.tmp 5), type := 3, pos := "ref.go:97", after := #[], guard := none }) (v := .int .i64 (x : Int)) rfl (by kernel_rfl) (by kernel_rfl) (by kernel_rfl) (fun _ _ _ h => h) (Or.inl ⟨by rfl, ?_⟩) (by assumption) ?_
        · intro w9 hSw
          (try dsimp only at hSw)
          go_simp
        (try simp only [Act.put, List.setIfInBounds_toArray, List.set_cons_zero, List.set_cons_succ])
        refine wpAnyH_take (i := 2) (oi := { dst := some 14, op := Go.Op.indexAddr 27 (Go.Operand.tmp 12) (Go.Operand.tmp 13), type := 0, pos := "ref.go:97", after := #[{ on := 0, ground := Go.Ground.data }, { on := 1, ground := Go.Ground.data }], guard := none }) (v := .pointer (some ⟨b8, off8 + x * 11, none⟩)) rfl (by kernel_rfl) (by kernel_rfl) (by kernel_rfl) (fun _ _ _ h => h) (Or.inl ⟨by rfl, ?_⟩) (by assumption) ?_
        · intro w9 hSw
          (try dsimp only at hSw)
          go_simp
        (try simp only [Act.put, List.setIfInBounds_toArray, List.set_cons_zero, List.set_cons_succ])
        refine wpAnyH_take (i := 3) (oi := { dst := some 15, op := Go.Op.load 38 (Go.Operand.tmp 14), type := 38, pos := "ref.go:97", after := #[{ on := 2, ground := Go.Ground.data }], guard := none }) (v := .agg #[.int .i64 m.client, .int .i64 m.op, .bool m.put, .string m.key, .slice m.va m.vn m.vc, .int .i64 m.st, .int .i64 m.frm, .int .i64 m.to, .bool m.opn, .int .i64 tx, .int .i64 ty]) rfl (by kernel_rfl) (by kernel_rfl) (by kernel_rfl) (fun _ _ _ h => h) (Or.inl ⟨by rfl, ?_⟩) (by assumption) ?_
        · intro w9 hSw
          (try dsimp only at hSw)
          go_simp
        (try simp only [Act.put, List.setIfInBounds_toArray, List.set_cons_zero, List.set_cons_succ])
        refine wpAnyH_ready (rs := [4]) (by kernel_rfl) (by simp) ?_
        refine (AllReadyH.cons (o := { dst := some 16, op := Go.Op.call { callee := Go.Callee.value (Go.Operand.func 52), args := #[Go.Operand.tmp 15], argTypes := #[38] }, type := 4, pos := "ref.go:97", after := #[{ on := 3, ground := Go.Ground.data }], guard := none }) rfl (fun K hK => ?_) AllReadyH.nil)
        go_simp
        refine (RR.out _).mono ?_
        rintro o w6 ⟨rfl, KX⟩
        have K6 : Kept (fun _ => False) wo w6 := Kept.trans kd KX (fun _ _ z => z)
        clear KX
        refine hK.out _ _ ?_ (fun hHeld => ?_)
        · exact SH.out w6 K6
        clear hK K
        (try simp only [Act.put, List.setIfInBounds_toArray, List.set_cons_zero, List.set_cons_succ])
        refine wpAnyH_take (i := 5) (oi := { dst := some 17, op := Go.Op.move (Go.Operand.tmp 16), type := 4, pos := "ref.go:97", after := #[{ on := 4, ground := Go.Ground.data }, { on := 4, ground := Go.Ground.chain }], guard := none }) (v := .bool false) rfl (by kernel_rfl) (by kernel_rfl) (by kernel_rfl) (fun _ _ _ h => h) (Or.inl ⟨by rfl, ?_⟩) (by assumption) ?_
        · intro w9 hSw
          (try dsimp only at hSw)
          go_simp
        (try simp only [Act.put, List.setIfInBounds_toArray, List.set_cons_zero, List.set_cons_succ])
        refine wpAnyH_take (i := 6) (oi := { dst := some 18, op := Go.Op.move (Go.Operand.tmp 0), type := 27, pos := "ref.go:97", after := #[{ on := 5, ground := Go.Ground.guard }], guard := some (5, true) }) (v := undef) rfl (by kernel_rfl) (by kernel_rfl) (by kernel_rfl) (fun _ _ _ h => h) (Or.inr ⟨by rfl, rfl⟩) (by assumption) ?_
        (try simp only [Act.put, List.setIfInBounds_toArray, List.set_cons_zero, List.set_cons_succ])
        refine wpAnyH_take (i := 7) (oi := { dst := some 19, op := Go.Op.move (Go.Operand.tmp 5), type := 3, pos := "ref.go:97", after := #[{ on := 5, ground := Go.Ground.guard }], guard := some (5, true) }) (v := undef) rfl (by kernel_rfl) (by kernel_rfl) (by kernel_rfl) (fun _ _ _ h => h) (Or.inr ⟨by rfl, rfl⟩) (by assumption) ?_
        (try simp only [Act.put, List.setIfInBounds_toArray, List.set_cons_zero, List.set_cons_succ])
        refine wpAnyH_take (i := 8) (oi := { dst := some 20, op := Go.Op.indexAddr 27 (Go.Operand.tmp 18) (Go.Operand.tmp 19), type := 0, pos := "ref.go:97", after := #[{ on := 6, ground := Go.Ground.data }, { on := 7, ground := Go.Ground.data }, { on := 5, ground := Go.Ground.guard }], guard := some (5, true) }) (v := undef) rfl (by kernel_rfl) (by kernel_rfl) (by kernel_rfl) (fun _ _ _ h => h) (Or.inr ⟨by rfl, rfl⟩) (by assumption) ?_
        (try simp only [Act.put, List.setIfInBounds_toArray, List.set_cons_zero, List.set_cons_succ])
        refine wpAnyH_take (i := 9) (oi := { dst := some 21, op := Go.Op.fieldAddr 38 (Go.Operand.tmp 20) 9, type := 0, pos := "ref.go:97", after := #[{ on := 8, ground := Go.Ground.data }, { on := 5, ground := Go.Ground.guard }], guard := some (5, true) }) (v := undef) rfl (by kernel_rfl) (by kernel_rfl) (by kernel_rfl) (fun _ _ _ h => h) (Or.inr ⟨by rfl, rfl⟩) (by assumption) ?_
        (try simp only [Act.put, List.setIfInBounds_toArray, List.set_cons_zero, List.set_cons_succ])
        refine wpAnyH_take (i := 10) (oi := { dst := some 22, op := Go.Op.load 35 (Go.Operand.tmp 21), type := 35, pos := "ref.go:97", after := #[{ on := 9, ground := Go.Ground.data }, { on := 5, ground := Go.Ground.guard }], guard := some (5, true) }) (v := undef) rfl (by kernel_rfl) (by kernel_rfl) (by kernel_rfl) (fun _ _ _ h => h) (Or.inr ⟨by rfl, rfl⟩) (by assumption) ?_
        (try simp only [Act.put, List.setIfInBounds_toArray, List.set_cons_zero, List.set_cons_succ])
        refine wpAnyH_take (i := 11) (oi := { dst := some 23, op := Go.Op.load 35 (Go.Operand.tmp 3), type := 35, pos := "ref.go:97", after := #[{ on := 5, ground := Go.Ground.guard }], guard := some (5, true) }) (v := undef) rfl (by kernel_rfl) (by kernel_rfl) (by kernel_rfl) (fun _ _ _ h => h) (Or.inr ⟨by rfl, rfl⟩) (by assumption) ?_
        (try simp only [Act.put, List.setIfInBounds_toArray, List.set_cons_zero, List.set_cons_succ])
        refine wpAnyH_take (i := 12) (oi := { dst := some 24, op := Go.Op.binOp Go.BinOp.eql 35 (Go.Operand.tmp 22) (Go.Operand.tmp 23) 35, type := 4, pos := "ref.go:97", after := #[{ on := 10, ground := Go.Ground.data }, { on := 11, ground := Go.Ground.data }, { on := 5, ground := Go.Ground.guard }], guard := some (5, true) }) (v := undef) rfl (by kernel_rfl) (by kernel_rfl) (by kernel_rfl) (fun _ _ _ h => h) (Or.inr ⟨by rfl, rfl⟩) (by assumption) ?_
        (try simp only [Act.put, List.setIfInBounds_toArray, List.set_cons_zero, List.set_cons_succ])
        refine wpAnyH_take (i := 13) (oi := { dst := some 25, op := Go.Op.pick (Go.Operand.tmp 17) (Go.Operand.tmp 24) (Go.Operand.const (Go.Value.bool false)), type := 4, pos := "ref.go:97", after := #[{ on := 5, ground := Go.Ground.data }, { on := 12, ground := Go.Ground.data }], guard := none }) (v := .bool false) rfl (by kernel_rfl) (by kernel_rfl) (by kernel_rfl) (fun _ _ _ h => h) (Or.inl ⟨by rfl, ?_⟩) (by assumption) ?_
        · intro w9 hSw
          (try dsimp only at hSw)
          go_simp
        (try simp only [Act.put, List.setIfInBounds_toArray, List.set_cons_zero, List.set_cons_succ])
        refine wpAnyH_done (by kernel_rfl) ?_ _
        go_wp2_with fail
        go_roundw
        case rel => exact ⟨x + 1, by go_num, by omega, NX.out w6 K6⟩
        case measure => simp [intOf] <;> omega
      · by_cases h1 : tx = a
        · subst h1
          by_cases h2 : ty = b
          · subst h2
            have YY := YES.out (by simp)
            replace YES : Hid (∀ V, Kept (fun _ => False) wo V → wantB ms (tx, ty) = true ∧ Kept (fun _ => False) w V) := YY
            clear YY NX
            refine wp_region_held_drew (S := (fun V => V.cell? ⟨b8, off8 + x * 11, none⟩ = some (.int .i64 m.client) ∧ V.cell? ⟨b8, off8 + x * 11 + 1, none⟩ = some (.int .i64 m.op) ∧ V.cell? ⟨b8, off8 + x * 11 + 2, none⟩ = some (.bool m.put) ∧ V.cell? ⟨b8, off8 + x * 11 + 3, none⟩ = some (.string m.key) ∧ V.cell? ⟨b8, off8 + x * 11 + 4, none⟩ = some (.slice m.va m.vn m.vc) ∧ V.cell? ⟨b8, off8 + x * 11 + 5, none⟩ = some (.int .i64 m.st) ∧ V.cell? ⟨b8, off8 + x * 11 + 6, none⟩ = some (.int .i64 m.frm) ∧ V.cell? ⟨b8, off8 + x * 11 + 7, none⟩ = some (.int .i64 m.to) ∧ V.cell? ⟨b8, off8 + x * 11 + 8, none⟩ = some (.bool m.opn) ∧ V.cell? ⟨b8, off8 + x * 11 + 9, none⟩ = some (.int .i64 tx) ∧ V.cell? ⟨b8, off8 + x * 11 + 10, none⟩ = some (.int .i64 ty) ∧ V.cell? ⟨T, 0, none⟩ = some (.int .i64 tx) ∧ V.cell? ⟨T, 1, none⟩ = some (.int .i64 ty))) (by kernel_rfl) ?_ (fun hHeld => ?_)
            · exact SH.out _ kd
            refine wpAnyH_take (i := 0) (oi := { dst := some 12, op := Go.Op.move (Go.Operand.tmp 0), type := 27, pos := "ref.go:97", after := #[], guard := none }) (v := .slice (some ⟨b8, off8, none⟩) n c0) rfl (by kernel_rfl) (by kernel_rfl) (by kernel_rfl) (fun _ _ _ h => h) (Or.inl ⟨by rfl, ?_⟩) (by assumption) ?_
            · intro w9 hSw
              (try dsimp only at hSw)
              go_simp
            (try simp only [Act.put, List.setIfInBounds_toArray, List.set_cons_zero, List.set_cons_succ])
            refine wpAnyH_take (i := 1) (oi := { dst := some 13, op := Go.Op.move (Go.Operand.tmp 5), type := 3, pos := "ref.go:97", after := #[], guard := none }) (v := .int .i64 (x : Int)) rfl (by kernel_rfl) (by kernel_rfl) (by kernel_rfl) (fun _ _ _ h => h) (Or.inl ⟨by rfl, ?_⟩) (by assumption) ?_
            · intro w9 hSw
              (try dsimp only at hSw)
              go_simp
            (try simp only [Act.put, List.setIfInBounds_toArray, List.set_cons_zero, List.set_cons_succ])
            refine wpAnyH_take (i := 2) (oi := { dst := some 14, op := Go.Op.indexAddr 27 (Go.Operand.tmp 12) (Go.Operand.tmp 13), type := 0, pos := "ref.go:97", after := #[{ on := 0, ground := Go.Ground.data }, { on := 1, ground := Go.Ground.data }], guard := none }) (v := .pointer (some ⟨b8, off8 + x * 11, none⟩)) rfl (by kernel_rfl) (by kernel_rfl) (by kernel_rfl) (fun _ _ _ h => h) (Or.inl ⟨by rfl, ?_⟩) (by assumption) ?_
            · intro w9 hSw
              (try dsimp only at hSw)
              go_simp
            (try simp only [Act.put, List.setIfInBounds_toArray, List.set_cons_zero, List.set_cons_succ])
            refine wpAnyH_take (i := 3) (oi := { dst := some 15, op := Go.Op.load 38 (Go.Operand.tmp 14), type := 38, pos := "ref.go:97", after := #[{ on := 2, ground := Go.Ground.data }], guard := none }) (v := .agg #[.int .i64 m.client, .int .i64 m.op, .bool m.put, .string m.key, .slice m.va m.vn m.vc, .int .i64 m.st, .int .i64 m.frm, .int .i64 m.to, .bool m.opn, .int .i64 tx, .int .i64 ty]) rfl (by kernel_rfl) (by kernel_rfl) (by kernel_rfl) (fun _ _ _ h => h) (Or.inl ⟨by rfl, ?_⟩) (by assumption) ?_
            · intro w9 hSw
              (try dsimp only at hSw)
              go_simp
            (try simp only [Act.put, List.setIfInBounds_toArray, List.set_cons_zero, List.set_cons_succ])
            refine wpAnyH_ready (rs := [4]) (by kernel_rfl) (by simp) ?_
            refine (AllReadyH.cons (o := { dst := some 16, op := Go.Op.call { callee := Go.Callee.value (Go.Operand.func 52), args := #[Go.Operand.tmp 15], argTypes := #[38] }, type := 4, pos := "ref.go:97", after := #[{ on := 3, ground := Go.Ground.data }], guard := none }) rfl (fun K hK => ?_) AllReadyH.nil)
            go_simp
            refine (RR.out _).mono ?_
            rintro o w6 ⟨rfl, KX⟩
            have K6 : Kept (fun _ => False) wo w6 := Kept.trans kd KX (fun _ _ z => z)
            clear KX
            refine hK.out _ _ ?_ (fun hHeld => ?_)
            · exact SH.out w6 K6
            clear hK K
            (try simp only [Act.put, List.setIfInBounds_toArray, List.set_cons_zero, List.set_cons_succ])
            refine wpAnyH_take (i := 5) (oi := { dst := some 17, op := Go.Op.move (Go.Operand.tmp 16), type := 4, pos := "ref.go:97", after := #[{ on := 4, ground := Go.Ground.data }, { on := 4, ground := Go.Ground.chain }], guard := none }) (v := .bool true) rfl (by kernel_rfl) (by kernel_rfl) (by kernel_rfl) (fun _ _ _ h => h) (Or.inl ⟨by rfl, ?_⟩) (by assumption) ?_
            · intro w9 hSw
              (try dsimp only at hSw)
              go_simp
            (try simp only [Act.put, List.setIfInBounds_toArray, List.set_cons_zero, List.set_cons_succ])
            refine wpAnyH_take (i := 6) (oi := { dst := some 18, op := Go.Op.move (Go.Operand.tmp 0), type := 27, pos := "ref.go:97", after := #[{ on := 5, ground := Go.Ground.guard }], guard := some (5, true) }) (v := .slice (some ⟨b8, off8, none⟩) n c0) rfl (by kernel_rfl) (by kernel_rfl) (by kernel_rfl) (fun _ _ _ h => h) (Or.inl ⟨by rfl, ?_⟩) (by assumption) ?_
            · intro w9 hSw
              (try dsimp only at hSw)
              go_simp
            (try simp only [Act.put, List.setIfInBounds_toArray, List.set_cons_zero, List.set_cons_succ])
            refine wpAnyH_take (i := 7) (oi := { dst := some 19, op := Go.Op.move (Go.Operand.tmp 5), type := 3, pos := "ref.go:97", after := #[{ on := 5, ground := Go.Ground.guard }], guard := some (5, true) }) (v := .int .i64 (x : Int)) rfl (by kernel_rfl) (by kernel_rfl) (by kernel_rfl) (fun _ _ _ h => h) (Or.inl ⟨by rfl, ?_⟩) (by assumption) ?_
            · intro w9 hSw
              (try dsimp only at hSw)
              go_simp
            (try simp only [Act.put, List.setIfInBounds_toArray, List.set_cons_zero, List.set_cons_succ])
            refine wpAnyH_take (i := 8) (oi := { dst := some 20, op := Go.Op.indexAddr 27 (Go.Operand.tmp 18) (Go.Operand.tmp 19), type := 0, pos := "ref.go:97", after := #[{ on := 6, ground := Go.Ground.data }, { on := 7, ground := Go.Ground.data }, { on := 5, ground := Go.Ground.guard }], guard := some (5, true) }) (v := .pointer (some ⟨b8, off8 + x * 11, none⟩)) rfl (by kernel_rfl) (by kernel_rfl) (by kernel_rfl) (fun _ _ _ h => h) (Or.inl ⟨by rfl, ?_⟩) (by assumption) ?_
            · intro w9 hSw
              (try dsimp only at hSw)
              go_simp
            (try simp only [Act.put, List.setIfInBounds_toArray, List.set_cons_zero, List.set_cons_succ])
            refine wpAnyH_take (i := 9) (oi := { dst := some 21, op := Go.Op.fieldAddr 38 (Go.Operand.tmp 20) 9, type := 0, pos := "ref.go:97", after := #[{ on := 8, ground := Go.Ground.data }, { on := 5, ground := Go.Ground.guard }], guard := some (5, true) }) (v := .pointer (some ⟨b8, off8 + x * 11 + 9, none⟩)) rfl (by kernel_rfl) (by kernel_rfl) (by kernel_rfl) (fun _ _ _ h => h) (Or.inl ⟨by rfl, ?_⟩) (by assumption) ?_
            · intro w9 hSw
              (try dsimp only at hSw)
              go_simp
            (try simp only [Act.put, List.setIfInBounds_toArray, List.set_cons_zero, List.set_cons_succ])
            refine wpAnyH_take (i := 10) (oi := { dst := some 22, op := Go.Op.load 35 (Go.Operand.tmp 21), type := 35, pos := "ref.go:97", after := #[{ on := 9, ground := Go.Ground.data }, { on := 5, ground := Go.Ground.guard }], guard := some (5, true) }) (v := .agg #[.int .i64 tx, .int .i64 ty]) rfl (by kernel_rfl) (by kernel_rfl) (by kernel_rfl) (fun _ _ _ h => h) (Or.inl ⟨by rfl, ?_⟩) (by assumption) ?_
            · intro w9 hSw
              (try dsimp only at hSw)
              go_simp
            (try simp only [Act.put, List.setIfInBounds_toArray, List.set_cons_zero, List.set_cons_succ])
            refine wpAnyH_take (i := 11) (oi := { dst := some 23, op := Go.Op.load 35 (Go.Operand.tmp 3), type := 35, pos := "ref.go:97", after := #[{ on := 5, ground := Go.Ground.guard }], guard := some (5, true) }) (v := .agg #[.int .i64 tx, .int .i64 ty]) rfl (by kernel_rfl) (by kernel_rfl) (by kernel_rfl) (fun _ _ _ h => h) (Or.inl ⟨by rfl, ?_⟩) (by assumption) ?_
            · intro w9 hSw
              (try dsimp only at hSw)
              go_simp
            (try simp only [Act.put, List.setIfInBounds_toArray, List.set_cons_zero, List.set_cons_succ])
            refine wpAnyH_take (i := 12) (oi := { dst := some 24, op := Go.Op.binOp Go.BinOp.eql 35 (Go.Operand.tmp 22) (Go.Operand.tmp 23) 35, type := 4, pos := "ref.go:97", after := #[{ on := 10, ground := Go.Ground.data }, { on := 11, ground := Go.Ground.data }, { on := 5, ground := Go.Ground.guard }], guard := some (5, true) }) (v := .bool true) rfl (by kernel_rfl) (by kernel_rfl) (by kernel_rfl) (fun _ _ _ h => h) (Or.inl ⟨by rfl, ?_⟩) (by assumption) ?_
            · intro w9 hSw
              (try dsimp only at hSw)
              go_simp
            (try simp only [Act.put, List.setIfInBounds_toArray, List.set_cons_zero, List.set_cons_succ])
            refine wpAnyH_take (i := 13) (oi := { dst := some 25, op := Go.Op.pick (Go.Operand.tmp 17) (Go.Operand.tmp 24) (Go.Operand.const (Go.Value.bool false)), type := 4, pos := "ref.go:97", after := #[{ on := 5, ground := Go.Ground.data }, { on := 12, ground := Go.Ground.data }], guard := none }) (v := .bool true) rfl (by kernel_rfl) (by kernel_rfl) (by kernel_rfl) (fun _ _ _ h => h) (Or.inl ⟨by rfl, ?_⟩) (by assumption) ?_
            · intro w9 hSw
              (try dsimp only at hSw)
              go_simp
            (try simp only [Act.put, List.setIfInBounds_toArray, List.set_cons_zero, List.set_cons_succ])
            refine wpAnyH_done (by kernel_rfl) ?_ _
            obtain ⟨e1, e2⟩ := YES.out w6 K6
            clear K6 YES
            go_wp2_with fail
            go_ret
            exact ⟨by rw [e1]; first | rfl | simp, e2⟩
          · have NN := NX.out (by simp [h2])
            replace NX : Hid (∀ V, Kept (fun _ => False) wo V → Hid (Kept (fun _ => False) W V ∧ ∀ (j : Nat) (m : Cm), j < x + 1 → ms[j]? = some m → (readB m && decide (tg m = (tx, b))) = false)) := NN
            clear NN YES
            have q2 : (ty == b) = false := by simp [h2]
            refine wp_region_held_drew (S := (fun V => V.cell? ⟨b8, off8 + x * 11, none⟩ = some (.int .i64 m.client) ∧ V.cell? ⟨b8, off8 + x * 11 + 1, none⟩ = some (.int .i64 m.op) ∧ V.cell? ⟨b8, off8 + x * 11 + 2, none⟩ = some (.bool m.put) ∧ V.cell? ⟨b8, off8 + x * 11 + 3, none⟩ = some (.string m.key) ∧ V.cell? ⟨b8, off8 + x * 11 + 4, none⟩ = some (.slice m.va m.vn m.vc) ∧ V.cell? ⟨b8, off8 + x * 11 + 5, none⟩ = some (.int .i64 m.st) ∧ V.cell? ⟨b8, off8 + x * 11 + 6, none⟩ = some (.int .i64 m.frm) ∧ V.cell? ⟨b8, off8 + x * 11 + 7, none⟩ = some (.int .i64 m.to) ∧ V.cell? ⟨b8, off8 + x * 11 + 8, none⟩ = some (.bool m.opn) ∧ V.cell? ⟨b8, off8 + x * 11 + 9, none⟩ = some (.int .i64 tx) ∧ V.cell? ⟨b8, off8 + x * 11 + 10, none⟩ = some (.int .i64 ty) ∧ V.cell? ⟨T, 0, none⟩ = some (.int .i64 tx) ∧ V.cell? ⟨T, 1, none⟩ = some (.int .i64 b))) (by kernel_rfl) ?_ (fun hHeld => ?_)
            · exact SH.out _ kd
            refine wpAnyH_take (i := 0) (oi := { dst := some 12, op := Go.Op.move (Go.Operand.tmp 0), type := 27, pos := "ref.go:97", after := #[], guard := none }) (v := .slice (some ⟨b8, off8, none⟩) n c0) rfl (by kernel_rfl) (by kernel_rfl) (by kernel_rfl) (fun _ _ _ h => h) (Or.inl ⟨by rfl, ?_⟩) (by assumption) ?_
            · intro w9 hSw
              (try dsimp only at hSw)
              go_simp
            (try simp only [Act.put, List.setIfInBounds_toArray, List.set_cons_zero, List.set_cons_succ])
            refine wpAnyH_take (i := 1) (oi := { dst := some 13, op := Go.Op.move (Go.Operand.tmp 5), type := 3, pos := "ref.go:97", after := #[], guard := none }) (v := .int .i64 (x : Int)) rfl (by kernel_rfl) (by kernel_rfl) (by kernel_rfl) (fun _ _ _ h => h) (Or.inl ⟨by rfl, ?_⟩) (by assumption) ?_
            · intro w9 hSw
              (try dsimp only at hSw)
              go_simp
            (try simp only [Act.put, List.setIfInBounds_toArray, List.set_cons_zero, List.set_cons_succ])
            refine wpAnyH_take (i := 2) (oi := { dst := some 14, op := Go.Op.indexAddr 27 (Go.Operand.tmp 12) (Go.Operand.tmp 13), type := 0, pos := "ref.go:97", after := #[{ on := 0, ground := Go.Ground.data }, { on := 1, ground := Go.Ground.data }], guard := none }) (v := .pointer (some ⟨b8, off8 + x * 11, none⟩)) rfl (by kernel_rfl) (by kernel_rfl) (by kernel_rfl) (fun _ _ _ h => h) (Or.inl ⟨by rfl, ?_⟩) (by assumption) ?_
            · intro w9 hSw
              (try dsimp only at hSw)
              go_simp
            (try simp only [Act.put, List.setIfInBounds_toArray, List.set_cons_zero, List.set_cons_succ])
            refine wpAnyH_take (i := 3) (oi := { dst := some 15, op := Go.Op.load 38 (Go.Operand.tmp 14), type := 38, pos := "ref.go:97", after := #[{ on := 2, ground := Go.Ground.data }], guard := none }) (v := .agg #[.int .i64 m.client, .int .i64 m.op, .bool m.put, .string m.key, .slice m.va m.vn m.vc, .int .i64 m.st, .int .i64 m.frm, .int .i64 m.to, .bool m.opn, .int .i64 tx, .int .i64 ty]) rfl (by kernel_rfl) (by kernel_rfl) (by kernel_rfl) (fun _ _ _ h => h) (Or.inl ⟨by rfl, ?_⟩) (by assumption) ?_
            · intro w9 hSw
              (try dsimp only at hSw)
              go_simp
            (try simp only [Act.put, List.setIfInBounds_toArray, List.set_cons_zero, List.set_cons_succ])
            refine wpAnyH_ready (rs := [4]) (by kernel_rfl) (by simp) ?_
            refine (AllReadyH.cons (o := { dst := some 16, op := Go.Op.call { callee := Go.Callee.value (Go.Operand.func 52), args := #[Go.Operand.tmp 15], argTypes := #[38] }, type := 4, pos := "ref.go:97", after := #[{ on := 3, ground := Go.Ground.data }], guard := none }) rfl (fun K hK => ?_) AllReadyH.nil)
            go_simp
            refine (RR.out _).mono ?_
            rintro o w6 ⟨rfl, KX⟩
            have K6 : Kept (fun _ => False) wo w6 := Kept.trans kd KX (fun _ _ z => z)
            clear KX
            refine hK.out _ _ ?_ (fun hHeld => ?_)
            · exact SH.out w6 K6
            clear hK K
            (try simp only [Act.put, List.setIfInBounds_toArray, List.set_cons_zero, List.set_cons_succ])
            refine wpAnyH_take (i := 5) (oi := { dst := some 17, op := Go.Op.move (Go.Operand.tmp 16), type := 4, pos := "ref.go:97", after := #[{ on := 4, ground := Go.Ground.data }, { on := 4, ground := Go.Ground.chain }], guard := none }) (v := .bool true) rfl (by kernel_rfl) (by kernel_rfl) (by kernel_rfl) (fun _ _ _ h => h) (Or.inl ⟨by rfl, ?_⟩) (by assumption) ?_
            · intro w9 hSw
              (try dsimp only at hSw)
              go_simp
            (try simp only [Act.put, List.setIfInBounds_toArray, List.set_cons_zero, List.set_cons_succ])
            refine wpAnyH_take (i := 6) (oi := { dst := some 18, op := Go.Op.move (Go.Operand.tmp 0), type := 27, pos := "ref.go:97", after := #[{ on := 5, ground := Go.Ground.guard }], guard := some (5, true) }) (v := .slice (some ⟨b8, off8, none⟩) n c0) rfl (by kernel_rfl) (by kernel_rfl) (by kernel_rfl) (fun _ _ _ h => h) (Or.inl ⟨by rfl, ?_⟩) (by assumption) ?_
            · intro w9 hSw
              (try dsimp only at hSw)
              go_simp
            (try simp only [Act.put, List.setIfInBounds_toArray, List.set_cons_zero, List.set_cons_succ])
            refine wpAnyH_take (i := 7) (oi := { dst := some 19, op := Go.Op.move (Go.Operand.tmp 5), type := 3, pos := "ref.go:97", after := #[{ on := 5, ground := Go.Ground.guard }], guard := some (5, true) }) (v := .int .i64 (x : Int)) rfl (by kernel_rfl) (by kernel_rfl) (by kernel_rfl) (fun _ _ _ h => h) (Or.inl ⟨by rfl, ?_⟩) (by assumption) ?_
            · intro w9 hSw
              (try dsimp only at hSw)
              go_simp
            (try simp only [Act.put, List.setIfInBounds_toArray, List.set_cons_zero, List.set_cons_succ])
            refine wpAnyH_take (i := 8) (oi := { dst := some 20, op := Go.Op.indexAddr 27 (Go.Operand.tmp 18) (Go.Operand.tmp 19), type := 0, pos := "ref.go:97", after := #[{ on := 6, ground := Go.Ground.data }, { on := 7, ground := Go.Ground.data }, { on := 5, ground := Go.Ground.guard }], guard := some (5, true) }) (v := .pointer (some ⟨b8, off8 + x * 11, none⟩)) rfl (by kernel_rfl) (by kernel_rfl) (by kernel_rfl) (fun _ _ _ h => h) (Or.inl ⟨by rfl, ?_⟩) (by assumption) ?_
            · intro w9 hSw
              (try dsimp only at hSw)
              go_simp
            (try simp only [Act.put, List.setIfInBounds_toArray, List.set_cons_zero, List.set_cons_succ])
            refine wpAnyH_take (i := 9) (oi := { dst := some 21, op := Go.Op.fieldAddr 38 (Go.Operand.tmp 20) 9, type := 0, pos := "ref.go:97", after := #[{ on := 8, ground := Go.Ground.data }, { on := 5, ground := Go.Ground.guard }], guard := some (5, true) }) (v := .pointer (some ⟨b8, off8 + x * 11 + 9, none⟩)) rfl (by kernel_rfl) (by kernel_rfl) (by kernel_rfl) (fun _ _ _ h => h) (Or.inl ⟨by rfl, ?_⟩) (by assumption) ?_
            · intro w9 hSw
              (try dsimp only at hSw)
              go_simp
            (try simp only [Act.put, List.setIfInBounds_toArray, List.set_cons_zero, List.set_cons_succ])
            refine wpAnyH_take (i := 10) (oi := { dst := some 22, op := Go.Op.load 35 (Go.Operand.tmp 21), type := 35, pos := "ref.go:97", after := #[{ on := 9, ground := Go.Ground.data }, { on := 5, ground := Go.Ground.guard }], guard := some (5, true) }) (v := .agg #[.int .i64 tx, .int .i64 ty]) rfl (by kernel_rfl) (by kernel_rfl) (by kernel_rfl) (fun _ _ _ h => h) (Or.inl ⟨by rfl, ?_⟩) (by assumption) ?_
            · intro w9 hSw
              (try dsimp only at hSw)
              go_simp
            (try simp only [Act.put, List.setIfInBounds_toArray, List.set_cons_zero, List.set_cons_succ])
            refine wpAnyH_take (i := 11) (oi := { dst := some 23, op := Go.Op.load 35 (Go.Operand.tmp 3), type := 35, pos := "ref.go:97", after := #[{ on := 5, ground := Go.Ground.guard }], guard := some (5, true) }) (v := .agg #[.int .i64 tx, .int .i64 b]) rfl (by kernel_rfl) (by kernel_rfl) (by kernel_rfl) (fun _ _ _ h => h) (Or.inl ⟨by rfl, ?_⟩) (by assumption) ?_
            · intro w9 hSw
              (try dsimp only at hSw)
              go_simp
            (try simp only [Act.put, List.setIfInBounds_toArray, List.set_cons_zero, List.set_cons_succ])
            refine wpAnyH_take (i := 12) (oi := { dst := some 24, op := Go.Op.binOp Go.BinOp.eql 35 (Go.Operand.tmp 22) (Go.Operand.tmp 23) 35, type := 4, pos := "ref.go:97", after := #[{ on := 10, ground := Go.Ground.data }, { on := 11, ground := Go.Ground.data }, { on := 5, ground := Go.Ground.guard }], guard := some (5, true) }) (v := .bool false) rfl (by kernel_rfl) (by kernel_rfl) (by kernel_rfl) (fun _ _ _ h => h) (Or.inl ⟨by rfl, ?_⟩) (by assumption) ?_
            · intro w9 hSw
              (try dsimp only at hSw)
              go_simp
            (try simp only [Act.put, List.setIfInBounds_toArray, List.set_cons_zero, List.set_cons_succ])
            refine wpAnyH_take (i := 13) (oi := { dst := some 25, op := Go.Op.pick (Go.Operand.tmp 17) (Go.Operand.tmp 24) (Go.Operand.const (Go.Value.bool false)), type := 4, pos := "ref.go:97", after := #[{ on := 5, ground := Go.Ground.data }, { on := 12, ground := Go.Ground.data }], guard := none }) (v := .bool false) rfl (by kernel_rfl) (by kernel_rfl) (by kernel_rfl) (fun _ _ _ h => h) (Or.inl ⟨by rfl, ?_⟩) (by assumption) ?_
            · intro w9 hSw
              (try dsimp only at hSw)
              go_simp
            (try simp only [Act.put, List.setIfInBounds_toArray, List.set_cons_zero, List.set_cons_succ])
            refine wpAnyH_done (by kernel_rfl) ?_ _
            go_wp2_with fail
            go_roundw
            case rel => exact ⟨x + 1, by go_num, by omega, NX.out w6 K6⟩
            case measure => simp [intOf] <;> omega
        · have NN := NX.out (by simp [h1])
          replace NX : Hid (∀ V, Kept (fun _ => False) wo V → Hid (Kept (fun _ => False) W V ∧ ∀ (j : Nat) (m : Cm), j < x + 1 → ms[j]? = some m → (readB m && decide (tg m = (a, b))) = false)) := NN
          clear NN YES
          have q1 : (tx == a) = false := by simp [h1]
          refine wp_region_held_drew (S := (fun V => V.cell? ⟨b8, off8 + x * 11, none⟩ = some (.int .i64 m.client) ∧ V.cell? ⟨b8, off8 + x * 11 + 1, none⟩ = some (.int .i64 m.op) ∧ V.cell? ⟨b8, off8 + x * 11 + 2, none⟩ = some (.bool m.put) ∧ V.cell? ⟨b8, off8 + x * 11 + 3, none⟩ = some (.string m.key) ∧ V.cell? ⟨b8, off8 + x * 11 + 4, none⟩ = some (.slice m.va m.vn m.vc) ∧ V.cell? ⟨b8, off8 + x * 11 + 5, none⟩ = some (.int .i64 m.st) ∧ V.cell? ⟨b8, off8 + x * 11 + 6, none⟩ = some (.int .i64 m.frm) ∧ V.cell? ⟨b8, off8 + x * 11 + 7, none⟩ = some (.int .i64 m.to) ∧ V.cell? ⟨b8, off8 + x * 11 + 8, none⟩ = some (.bool m.opn) ∧ V.cell? ⟨b8, off8 + x * 11 + 9, none⟩ = some (.int .i64 tx) ∧ V.cell? ⟨b8, off8 + x * 11 + 10, none⟩ = some (.int .i64 ty) ∧ V.cell? ⟨T, 0, none⟩ = some (.int .i64 a) ∧ V.cell? ⟨T, 1, none⟩ = some (.int .i64 b))) (by kernel_rfl) ?_ (fun hHeld => ?_)
          · exact SH.out _ kd
          refine wpAnyH_take (i := 0) (oi := { dst := some 12, op := Go.Op.move (Go.Operand.tmp 0), type := 27, pos := "ref.go:97", after := #[], guard := none }) (v := .slice (some ⟨b8, off8, none⟩) n c0) rfl (by kernel_rfl) (by kernel_rfl) (by kernel_rfl) (fun _ _ _ h => h) (Or.inl ⟨by rfl, ?_⟩) (by assumption) ?_
          · intro w9 hSw
            (try dsimp only at hSw)
            go_simp
          (try simp only [Act.put, List.setIfInBounds_toArray, List.set_cons_zero, List.set_cons_succ])
          refine wpAnyH_take (i := 1) (oi := { dst := some 13, op := Go.Op.move (Go.Operand.tmp 5), type := 3, pos := "ref.go:97", after := #[], guard := none }) (v := .int .i64 (x : Int)) rfl (by kernel_rfl) (by kernel_rfl) (by kernel_rfl) (fun _ _ _ h => h) (Or.inl ⟨by rfl, ?_⟩) (by assumption) ?_
          · intro w9 hSw
            (try dsimp only at hSw)
            go_simp
          (try simp only [Act.put, List.setIfInBounds_toArray, List.set_cons_zero, List.set_cons_succ])
          refine wpAnyH_take (i := 2) (oi := { dst := some 14, op := Go.Op.indexAddr 27 (Go.Operand.tmp 12) (Go.Operand.tmp 13), type := 0, pos := "ref.go:97", after := #[{ on := 0, ground := Go.Ground.data }, { on := 1, ground := Go.Ground.data }], guard := none }) (v := .pointer (some ⟨b8, off8 + x * 11, none⟩)) rfl (by kernel_rfl) (by kernel_rfl) (by kernel_rfl) (fun _ _ _ h => h) (Or.inl ⟨by rfl, ?_⟩) (by assumption) ?_
          · intro w9 hSw
            (try dsimp only at hSw)
            go_simp
          (try simp only [Act.put, List.setIfInBounds_toArray, List.set_cons_zero, List.set_cons_succ])
          refine wpAnyH_take (i := 3) (oi := { dst := some 15, op := Go.Op.load 38 (Go.Operand.tmp 14), type := 38, pos := "ref.go:97", after := #[{ on := 2, ground := Go.Ground.data }], guard := none }) (v := .agg #[.int .i64 m.client, .int .i64 m.op, .bool m.put, .string m.key, .slice m.va m.vn m.vc, .int .i64 m.st, .int .i64 m.frm, .int .i64 m.to, .bool m.opn, .int .i64 tx, .int .i64 ty]) rfl (by kernel_rfl) (by kernel_rfl) (by kernel_rfl) (fun _ _ _ h => h) (Or.inl ⟨by rfl, ?_⟩) (by assumption) ?_
          · intro w9 hSw
            (try dsimp only at hSw)
            go_simp
          (try simp only [Act.put, List.setIfInBounds_toArray, List.set_cons_zero, List.set_cons_succ])
          refine wpAnyH_ready (rs := [4]) (by kernel_rfl) (by simp) ?_
          refine (AllReadyH.cons (o := { dst := some 16, op := Go.Op.call { callee := Go.Callee.value (Go.Operand.func 52), args := #[Go.Operand.tmp 15], argTypes := #[38] }, type := 4, pos := "ref.go:97", after := #[{ on := 3, ground := Go.Ground.data }], guard := none }) rfl (fun K hK => ?_) AllReadyH.nil)
          go_simp
          refine (RR.out _).mono ?_
          rintro o w6 ⟨rfl, KX⟩
          have K6 : Kept (fun _ => False) wo w6 := Kept.trans kd KX (fun _ _ z => z)
          clear KX
          refine hK.out _ _ ?_ (fun hHeld => ?_)
          · exact SH.out w6 K6
          clear hK K
          (try simp only [Act.put, List.setIfInBounds_toArray, List.set_cons_zero, List.set_cons_succ])
          refine wpAnyH_take (i := 5) (oi := { dst := some 17, op := Go.Op.move (Go.Operand.tmp 16), type := 4, pos := "ref.go:97", after := #[{ on := 4, ground := Go.Ground.data }, { on := 4, ground := Go.Ground.chain }], guard := none }) (v := .bool true) rfl (by kernel_rfl) (by kernel_rfl) (by kernel_rfl) (fun _ _ _ h => h) (Or.inl ⟨by rfl, ?_⟩) (by assumption) ?_
          · intro w9 hSw
            (try dsimp only at hSw)
            go_simp
          (try simp only [Act.put, List.setIfInBounds_toArray, List.set_cons_zero, List.set_cons_succ])
          refine wpAnyH_take (i := 6) (oi := { dst := some 18, op := Go.Op.move (Go.Operand.tmp 0), type := 27, pos := "ref.go:97", after := #[{ on := 5, ground := Go.Ground.guard }], guard := some (5, true) }) (v := .slice (some ⟨b8, off8, none⟩) n c0) rfl (by kernel_rfl) (by kernel_rfl) (by kernel_rfl) (fun _ _ _ h => h) (Or.inl ⟨by rfl, ?_⟩) (by assumption) ?_
          · intro w9 hSw
            (try dsimp only at hSw)
            go_simp
          (try simp only [Act.put, List.setIfInBounds_toArray, List.set_cons_zero, List.set_cons_succ])
          refine wpAnyH_take (i := 7) (oi := { dst := some 19, op := Go.Op.move (Go.Operand.tmp 5), type := 3, pos := "ref.go:97", after := #[{ on := 5, ground := Go.Ground.guard }], guard := some (5, true) }) (v := .int .i64 (x : Int)) rfl (by kernel_rfl) (by kernel_rfl) (by kernel_rfl) (fun _ _ _ h => h) (Or.inl ⟨by rfl, ?_⟩) (by assumption) ?_
          · intro w9 hSw
            (try dsimp only at hSw)
            go_simp
          (try simp only [Act.put, List.setIfInBounds_toArray, List.set_cons_zero, List.set_cons_succ])
          refine wpAnyH_take (i := 8) (oi := { dst := some 20, op := Go.Op.indexAddr 27 (Go.Operand.tmp 18) (Go.Operand.tmp 19), type := 0, pos := "ref.go:97", after := #[{ on := 6, ground := Go.Ground.data }, { on := 7, ground := Go.Ground.data }, { on := 5, ground := Go.Ground.guard }], guard := some (5, true) }) (v := .pointer (some ⟨b8, off8 + x * 11, none⟩)) rfl (by kernel_rfl) (by kernel_rfl) (by kernel_rfl) (fun _ _ _ h => h) (Or.inl ⟨by rfl, ?_⟩) (by assumption) ?_
          · intro w9 hSw
            (try dsimp only at hSw)
            go_simp
          (try simp only [Act.put, List.setIfInBounds_toArray, List.set_cons_zero, List.set_cons_succ])
          refine wpAnyH_take (i := 9) (oi := { dst := some 21, op := Go.Op.fieldAddr 38 (Go.Operand.tmp 20) 9, type := 0, pos := "ref.go:97", after := #[{ on := 8, ground := Go.Ground.data }, { on := 5, ground := Go.Ground.guard }], guard := some (5, true) }) (v := .pointer (some ⟨b8, off8 + x * 11 + 9, none⟩)) rfl (by kernel_rfl) (by kernel_rfl) (by kernel_rfl) (fun _ _ _ h => h) (Or.inl ⟨by rfl, ?_⟩) (by assumption) ?_
          · intro w9 hSw
            (try dsimp only at hSw)
            go_simp
          (try simp only [Act.put, List.setIfInBounds_toArray, List.set_cons_zero, List.set_cons_succ])
          refine wpAnyH_take (i := 10) (oi := { dst := some 22, op := Go.Op.load 35 (Go.Operand.tmp 21), type := 35, pos := "ref.go:97", after := #[{ on := 9, ground := Go.Ground.data }, { on := 5, ground := Go.Ground.guard }], guard := some (5, true) }) (v := .agg #[.int .i64 tx, .int .i64 ty]) rfl (by kernel_rfl) (by kernel_rfl) (by kernel_rfl) (fun _ _ _ h => h) (Or.inl ⟨by rfl, ?_⟩) (by assumption) ?_
          · intro w9 hSw
            (try dsimp only at hSw)
            go_simp
          (try simp only [Act.put, List.setIfInBounds_toArray, List.set_cons_zero, List.set_cons_succ])
          refine wpAnyH_take (i := 11) (oi := { dst := some 23, op := Go.Op.load 35 (Go.Operand.tmp 3), type := 35, pos := "ref.go:97", after := #[{ on := 5, ground := Go.Ground.guard }], guard := some (5, true) }) (v := .agg #[.int .i64 a, .int .i64 b]) rfl (by kernel_rfl) (by kernel_rfl) (by kernel_rfl) (fun _ _ _ h => h) (Or.inl ⟨by rfl, ?_⟩) (by assumption) ?_
          · intro w9 hSw
            (try dsimp only at hSw)
            go_simp
          (try simp only [Act.put, List.setIfInBounds_toArray, List.set_cons_zero, List.set_cons_succ])
          refine wpAnyH_take (i := 12) (oi := { dst := some 24, op := Go.Op.binOp Go.BinOp.eql 35 (Go.Operand.tmp 22) (Go.Operand.tmp 23) 35, type := 4, pos := "ref.go:97", after := #[{ on := 10, ground := Go.Ground.data }, { on := 11, ground := Go.Ground.data }, { on := 5, ground := Go.Ground.guard }], guard := some (5, true) }) (v := .bool false) rfl (by kernel_rfl) (by kernel_rfl) (by kernel_rfl) (fun _ _ _ h => h) (Or.inl ⟨by rfl, ?_⟩) (by assumption) ?_
          · intro w9 hSw
            (try dsimp only at hSw)
            go_simp
          (try simp only [Act.put, List.setIfInBounds_toArray, List.set_cons_zero, List.set_cons_succ])
          refine wpAnyH_take (i := 13) (oi := { dst := some 25, op := Go.Op.pick (Go.Operand.tmp 17) (Go.Operand.tmp 24) (Go.Operand.const (Go.Value.bool false)), type := 4, pos := "ref.go:97", after := #[{ on := 5, ground := Go.Ground.data }, { on := 12, ground := Go.Ground.data }], guard := none }) (v := .bool false) rfl (by kernel_rfl) (by kernel_rfl) (by kernel_rfl) (fun _ _ _ h => h) (Or.inl ⟨by rfl, ?_⟩) (by assumption) ?_
          · intro w9 hSw
            (try dsimp only at hSw)
            go_simp
          (try simp only [Act.put, List.setIfInBounds_toArray, List.set_cons_zero, List.set_cons_succ])
          refine wpAnyH_done (by kernel_rfl) ?_ _
          go_wp2_with fail
          go_roundw
          case rel => exact ⟨x + 1, by go_num, by omega, NX.out w6 K6⟩
          case measure => simp [intOf] <;> omega
    · have x1 : ¬ (x : Int) < (n : Int) := by omega
      have ex : x = n := by omega
      have NO : Hid (wantB ms (a, b) = false ∧ Kept (fun _ => False) w wo) := ⟨by
        rw [← Bool.not_eq_true]
        intro z
        unfold wantB at z
        rw [List.any_eq_true] at z
        obtain ⟨m, hm, hz⟩ := z
        obtain ⟨j, hj⟩ := List.getElem?_of_mem hm
        have hl := (List.getElem?_eq_some_iff.1 hj).1
        rw [H.out.1.len] at hl
        rw [S.out.2 j m (by omega) hj] at hz
        exact absurd hz (by decide), H.out.2.1.trans S.out.1 (fun _ _ z => z)⟩
      clear S
      go_wp2_with fail
      go_ret
      exact ⟨by rw [NO.out.1]; first | rfl | simp, NO.out.2⟩
end Go.Proofs.Ytodmakcklacbfaa
