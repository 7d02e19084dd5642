import Derived.Test.YtonfefhegghapaaDoorTFiJ
import Derived.Deep.RegionHeldLaw
namespace Go.Proofs.YtonfefhegghapaaDoor
open Go.RowKit 

/-- What Check says, by the kind, what is not zero, and whether the list is a pattern. -/
def chkN (k : Int) (f : Nat) (pat : Bool) : Int := if k < 1 ∨ 16 < k then 32 else if bits .andNot .u8 (f : Int) (useN k.toNat : Int) ≠ 0 then 1 else if k = 9 ∧ pat = false then 1 else 0
theorem chk_kind {k : Int} {f : Nat} {pat : Bool} (h : k < 1 ∨ 16 < k) : chkN k f pat = 32 := if_pos h
theorem chk_use {k : Int} {f : Nat} {pat : Bool} (h : ¬ (k < 1 ∨ 16 < k)) (h2 : bits .andNot .u8 (f : Int) (useN k.toNat : Int) ≠ 0) : chkN k f pat = 1 := by unfold chkN; rw [if_neg h, if_pos h2]
theorem chk_pat {k : Int} {f : Nat} {pat : Bool} (h : ¬ (k < 1 ∨ 16 < k)) (h2 : bits .andNot .u8 (f : Int) (useN k.toNat : Int) = 0) : chkN k f pat = if k = 9 ∧ pat = false then 1 else 0 := by unfold chkN; rw [if_neg h, if_neg (fun z => z h2)]
def ZL (w : World) (la : Option Addr) (ln lc : Nat) (zs : List Int) : Prop := IRd w la ln lc zs
set_option maxRecDepth 100000 in
set_option maxHeartbeats 4000000 in
theorem hCheck (x : Sm) {w : World} {zs : List Int} (L : SmL x) (F : FM w) (R : IRd w x.la x.ln x.lc zs) : Calls Tryd.prog 13 #[.agg x.cs] w fun o w' => o = .returned (.int .i64 (chkN x.kind (filN x) (isPat zs))) ∧ Kept (fun _ => False) w w' := by
  obtain ⟨A, hA⟩ : ∃ A, chkN x.kind (filN x) (isPat zs) = A := ⟨_, rfl⟩
  rw [hA]
  have l4 := L.kind.1
  have l5 := L.kind.2
  have CF : Hid (∀ V, Calls Tryd.prog 32 #[.agg x.cs] V fun o w' => o = .returned (.int .u8 (filN x : Int)) ∧ Kept (fun _ => False) V w') := fun V => hFilled x V L
  clear L
  obtain ⟨f, hf⟩ : ∃ f, filN x = f := ⟨_, rfl⟩
  rw [hf] at CF hA
  clear hf
  obtain ⟨kind, a, b, key, va, vn, vc, la, ln, lc⟩ := x
  dsimp only at hA l4 l5 R
  have CF : Hid (∀ V, Calls Tryd.prog 32 #[.agg #[.int .i64 kind, .int .i64 a, .int .i64 b, .string key, .slice va vn vc, .slice la ln lc]] V fun o w' => o = .returned (.int .u8 (f : Int)) ∧ Kept (fun _ => False) V w') := CF
  show Calls Tryd.prog 13 #[.agg #[.int .i64 kind, .int .i64 a, .int .i64 b, .string key, .slice va vn vc, .slice la ln lc]] w _
  by_cases hk : kind < 1 ∨ 16 < kind
  · rw [chk_kind hk] at hA
    subst hA
    by_cases k1 : kind < 1
    · clear CF R F hk
      go_enter Tryd.func13, Tryd.ntmps13
      go_wp2_with fail
      go_ret
      exact ⟨by first | rfl | simp, (Kept.refl _ _).alloc _⟩
    · have k2 : 16 < kind := by omega
      clear CF R F hk
      go_enter Tryd.func13, Tryd.ntmps13
      go_wp2_with fail
      go_ret
      exact ⟨by first | rfl | simp, (Kept.refl _ _).alloc _⟩
  obtain ⟨k, rfl⟩ : ∃ k : Nat, kind = (k : Int) := ⟨kind.toNat, by omega⟩
  have k1 : ¬ (k : Int) < 1 := by omega
  have k2 : ¬ 16 < (k : Int) := by omega
  have k17 : (k : Int) < 17 := by omega
  have k17n : k < 17 := by omega
  obtain ⟨u, hu⟩ : ∃ u, useN k = u := ⟨_, rfl⟩
  have HA : Hid (∀ z : Int, bits .andNot .u8 (f : Int) (u : Int) = z → A = if z ≠ 0 then 1 else if (k : Int) = 9 ∧ isPat zs = false then 1 else 0) := fun z hz => by
    rw [← hA]
    unfold chkN
    rw [if_neg hk, show (k : Int).toNat = k from rfl, hu, hz]
  clear hA hk
  obtain ⟨W, hW⟩ : ∃ W, w.alloc (.cells #[.int .i64 (k : Int), .int .i64 a, .int .i64 b, .string key, .slice va vn vc, .slice la ln lc] 38) = W := ⟨_, rfl⟩
  obtain ⟨B, hB⟩ : ∃ B, w.heap.size = B := ⟨_, rfl⟩
  have S0 : Hid (W.heap[B]? = some (.cells #[.int .i64 (k : Int), .int .i64 a, .int .i64 b, .string key, .slice va vn vc, .slice la ln lc] 38 (0, 0)) ∧ Kept (fun _ => False) w W ∧ FM W ∧ IRd W la ln lc zs) := by
    rw [← hW, ← hB]
    have K := (Kept.refl (fun _ => False) w).alloc (.cells #[.int .i64 (k : Int), .int .i64 a, .int .i64 b, .string key, .slice va vn vc, .slice la ln lc] 38)
    exact ⟨alloc_new _ _, K, F.kept K, R.kept K⟩
  have HW : Hid (w.alloc (.cells #[.int .i64 (k : Int), .int .i64 a, .int .i64 b, .string key, .slice va vn vc, .slice la ln lc] 38) = W ∧ w.heap.size = B) := ⟨hW, hB⟩
  clear F R hW hB
  go_enter Tryd.func13, Tryd.ntmps13
  go_upto_region 3 with fail
  rw [HW.out.1, HW.out.2]
  clear HW
  have MK : Hid (∀ V, Kept (fun _ => False) W V → (V.cell? ⟨B, 0, none⟩ = some (.int .i64 (k : Int)) ∧ V.cell? ⟨B, 1, none⟩ = some (.int .i64 a) ∧ V.cell? ⟨B, 2, none⟩ = some (.int .i64 b) ∧ V.cell? ⟨B, 3, none⟩ = some (.string key) ∧ V.cell? ⟨B, 4, none⟩ = some (.slice va vn vc) ∧ V.cell? ⟨B, 5, none⟩ = some (.slice la ln lc) ∧ V.cell? ⟨0, k * 2 + 1, none⟩ = some (.int .u8 (u : Int)) ∧ Hid (IRd V la ln lc zs))) := fun V K => ⟨cell_blk (K.get S0.out.1 (fun z => z)) 0 rfl, cell_blk (K.get S0.out.1 (fun z => z)) 1 rfl, cell_blk (K.get S0.out.1 (fun z => z)) 2 rfl, cell_blk (K.get S0.out.1 (fun z => z)) 3 rfl, cell_blk (K.get S0.out.1 (fun z => z)) 4 rfl, cell_blk (K.get S0.out.1 (fun z => z)) 5 rfl, by rw [← hu]; exact (S0.out.2.2.1.kept K).use k17n, S0.out.2.2.2.kept K⟩
  obtain ⟨z, hz⟩ : ∃ z, bits .andNot .u8 (f : Int) (u : Int) = z := ⟨_, rfl⟩
  have HZ := HA.out z hz
  clear HA hu
  have KD : Hid (Kept (fun _ => False) W W.drew) := (Kept.refl _ _).drew
  refine wp_region_held_drew (S := (fun V => V.cell? ⟨B, 0, none⟩ = some (.int .i64 (k : Int)) ∧ V.cell? ⟨B, 1, none⟩ = some (.int .i64 a) ∧ V.cell? ⟨B, 2, none⟩ = some (.int .i64 b) ∧ V.cell? ⟨B, 3, none⟩ = some (.string key) ∧ V.cell? ⟨B, 4, none⟩ = some (.slice va vn vc) ∧ V.cell? ⟨B, 5, none⟩ = some (.slice la ln lc) ∧ V.cell? ⟨0, k * 2 + 1, none⟩ = some (.int .u8 (u : Int)) ∧ Hid (IRd V la ln lc zs))) (by kernel_rfl) ?_ (fun hHeld => ?_)
  · exact MK.out _ KD.out
  refine wpAnyH_take (i := 0) (oi := { dst := some 11, op := Op.load 38 (Operand.tmp 1), type := 38, pos := "script.go:19", after := #[], guard := none }) (v := .agg #[.int .i64 (k : Int), .int .i64 a, .int .i64 b, .string key, .slice va vn vc, .slice la ln lc]) rfl (by kernel_rfl) (by kernel_rfl) (by kernel_rfl) (fun _ _ _ h => h) (Or.inl ⟨by rfl, ?_⟩) (by assumption) ?_
  · intro w9 hSw
    (try dsimp only at hSw)
    go_simp
  (try simp only [Act.put, List.setIfInBounds_toArray, List.set_cons_zero, List.set_cons_succ])
  refine wpAnyH_take (i := 2) (oi := { dst := some 13, op := Op.fieldAddr 38 (Operand.tmp 1) 0, type := 0, pos := "script.go:19", after := #[], guard := none }) (v := .pointer (some ⟨B, 0, none⟩)) rfl (by kernel_rfl) (by kernel_rfl) (by kernel_rfl) (fun _ _ _ h => h) (Or.inl ⟨by rfl, ?_⟩) (by assumption) ?_
  · intro w9 hSw
    (try dsimp only at hSw)
    go_simp
  (try simp only [Act.put, List.setIfInBounds_toArray, List.set_cons_zero, List.set_cons_succ])
  refine wpAnyH_take (i := 3) (oi := { dst := some 14, op := Op.load 3 (Operand.tmp 13), type := 3, pos := "script.go:19", after := #[{ on := 2, ground := Ground.data }], guard := none }) (v := .int .i64 (k : Int)) rfl (by kernel_rfl) (by kernel_rfl) (by kernel_rfl) (fun _ _ _ h => h) (Or.inl ⟨by rfl, ?_⟩) (by assumption) ?_
  · intro w9 hSw
    (try dsimp only at hSw)
    go_simp
  (try simp only [Act.put, List.setIfInBounds_toArray, List.set_cons_zero, List.set_cons_succ])
  refine wpAnyH_take (i := 4) (oi := { dst := some 15, op := Op.indexAddr 59 (Operand.global 0) (Operand.tmp 14), type := 0, pos := "script.go:19", after := #[{ on := 3, ground := Ground.data }], guard := none }) (v := .pointer (some ⟨0, k * 2, none⟩)) rfl (by kernel_rfl) (by kernel_rfl) (by kernel_rfl) (fun _ _ _ h => h) (Or.inl ⟨by rfl, ?_⟩) (by assumption) ?_
  · intro w9 hSw
    (try dsimp only at hSw)
    go_simp
  (try simp only [Act.put, List.setIfInBounds_toArray, List.set_cons_zero, List.set_cons_succ])
  refine wpAnyH_take (i := 5) (oi := { dst := some 16, op := Op.fieldAddr 58 (Operand.tmp 15) 1, type := 0, pos := "script.go:19", after := #[{ on := 4, ground := Ground.data }], guard := none }) (v := .pointer (some ⟨0, k * 2 + 1, none⟩)) rfl (by kernel_rfl) (by kernel_rfl) (by kernel_rfl) (fun _ _ _ h => h) (Or.inl ⟨by rfl, ?_⟩) (by assumption) ?_
  · intro w9 hSw
    (try dsimp only at hSw)
    go_simp
  (try simp only [Act.put, List.setIfInBounds_toArray, List.set_cons_zero, List.set_cons_succ])
  refine wpAnyH_take (i := 6) (oi := { dst := some 17, op := Op.load 5 (Operand.tmp 16), type := 5, pos := "script.go:19", after := #[{ on := 5, ground := Ground.data }], guard := none }) (v := .int .u8 (u : Int)) rfl (by kernel_rfl) (by kernel_rfl) (by kernel_rfl) (fun _ _ _ h => h) (Or.inl ⟨by rfl, ?_⟩) (by assumption) ?_
  · intro w9 hSw
    (try dsimp only at hSw)
    go_simp
  (try simp only [Act.put, List.setIfInBounds_toArray, List.set_cons_zero, List.set_cons_succ])
  refine wpAnyH_ready (rs := [1]) (by kernel_rfl) (by simp) ?_
  refine (AllReadyH.cons (o := { dst := some 12, op := Op.call { callee := Callee.value (Operand.func 32), args := #[Operand.tmp 11], argTypes := #[38] }, type := 5, pos := "script.go:19", after := #[{ on := 0, ground := Ground.data }], guard := none }) rfl (fun K hK => ?_) AllReadyH.nil)
  go_simp
  refine (CF.out _).mono ?_
  rintro o w6 ⟨rfl, K6⟩
  have K7 : Hid (Kept (fun _ => False) W w6) := KD.out.trans K6 (fun _ _ z => z)
  refine hK.out _ _ ?_ (fun hHeld => ?_)
  · exact MK.out _ K7.out
  clear hK K K6
  (try simp only [Act.put, List.setIfInBounds_toArray, List.set_cons_zero, List.set_cons_succ])
  refine wpAnyH_take (i := 7) (oi := { dst := some 18, op := Op.binOp BinOp.andNot 5 (Operand.tmp 12) (Operand.tmp 17) 5, type := 5, pos := "script.go:19", after := #[{ on := 1, ground := Ground.data }, { on := 6, ground := Ground.data }], guard := none }) (v := .int .u8 z) rfl (by kernel_rfl) (by kernel_rfl) (by kernel_rfl) (fun _ _ _ h => h) (Or.inl ⟨by rfl, ?_⟩) (by assumption) ?_
  · intro w9 hSw
    (try dsimp only at hSw)
    go_simp
  (try simp only [Act.put, List.setIfInBounds_toArray, List.set_cons_zero, List.set_cons_succ])
  by_cases hz0 : z = 0
  · subst hz0
    refine wpAnyH_take (i := 8) (oi := { dst := some 19, op := Op.binOp BinOp.neq 5 (Operand.tmp 18) (Operand.const (Value.int IntKind.u8 0)) 5, type := 4, pos := "script.go:19", after := #[{ on := 7, ground := Ground.data }], guard := none }) (v := .bool false) rfl (by kernel_rfl) (by kernel_rfl) (by kernel_rfl) (fun _ _ _ h => h) (Or.inl ⟨by rfl, ?_⟩) (by assumption) ?_
    · intro w9 hSw
      (try dsimp only at hSw)
      go_simp
    (try simp only [Act.put, List.setIfInBounds_toArray, List.set_cons_zero, List.set_cons_succ])
    refine wpAnyH_take (i := 9) (oi := { dst := some 20, op := Op.move (Operand.tmp 19), type := 4, pos := "script.go:19", after := #[{ on := 8, ground := Ground.data }, { on := 1, ground := Ground.chain }], guard := none }) (v := .bool false) rfl (by kernel_rfl) (by kernel_rfl) (by kernel_rfl) (fun _ _ _ h => h) (Or.inl ⟨by rfl, ?_⟩) (by assumption) ?_
    · intro w9 hSw
      (try dsimp only at hSw)
      go_simp
    (try simp only [Act.put, List.setIfInBounds_toArray, List.set_cons_zero, List.set_cons_succ])
    refine wpAnyH_take (i := 10) (oi := { dst := some 21, op := Op.fieldAddr 38 (Operand.tmp 1) 0, type := 0, pos := "script.go:19", after := #[{ on := 9, ground := Ground.guard }], guard := some (9, false) }) (v := .pointer (some ⟨B, 0, none⟩)) rfl (by kernel_rfl) (by kernel_rfl) (by kernel_rfl) (fun _ _ _ h => h) (Or.inl ⟨by rfl, ?_⟩) (by assumption) ?_
    · intro w9 hSw
      (try dsimp only at hSw)
      go_simp
    (try simp only [Act.put, List.setIfInBounds_toArray, List.set_cons_zero, List.set_cons_succ])
    refine wpAnyH_take (i := 11) (oi := { dst := some 22, op := Op.load 3 (Operand.tmp 21), type := 3, pos := "script.go:19", after := #[{ on := 10, ground := Ground.data }, { on := 9, ground := Ground.guard }], guard := some (9, false) }) (v := .int .i64 (k : Int)) rfl (by kernel_rfl) (by kernel_rfl) (by kernel_rfl) (fun _ _ _ h => h) (Or.inl ⟨by rfl, ?_⟩) (by assumption) ?_
    · intro w9 hSw
      (try dsimp only at hSw)
      go_simp
    (try simp only [Act.put, List.setIfInBounds_toArray, List.set_cons_zero, List.set_cons_succ])
    by_cases hk9 : (k : Int) = 9
    · refine wpAnyH_take (i := 12) (oi := { dst := some 23, op := Op.binOp BinOp.eql 3 (Operand.tmp 22) (Operand.const (Value.int IntKind.i64 9)) 3, type := 4, pos := "script.go:19", after := #[{ on := 11, ground := Ground.data }, { on := 9, ground := Ground.guard }], guard := some (9, false) }) (v := .bool true) rfl (by kernel_rfl) (by kernel_rfl) (by kernel_rfl) (fun _ _ _ h => h) (Or.inl ⟨by rfl, ?_⟩) (by assumption) ?_
      · intro w9 hSw
        (try dsimp only at hSw)
        go_simp
      (try simp only [Act.put, List.setIfInBounds_toArray, List.set_cons_zero, List.set_cons_succ])
      refine wpAnyH_take (i := 13) (oi := { dst := some 24, op := Op.move (Operand.tmp 23), type := 4, pos := "script.go:19", after := #[{ on := 12, ground := Ground.data }, { on := 9, ground := Ground.chain }, { on := 9, ground := Ground.guard }], guard := some (9, false) }) (v := .bool true) rfl (by kernel_rfl) (by kernel_rfl) (by kernel_rfl) (fun _ _ _ h => h) (Or.inl ⟨by rfl, ?_⟩) (by assumption) ?_
      · intro w9 hSw
        (try dsimp only at hSw)
        go_simp
      (try simp only [Act.put, List.setIfInBounds_toArray, List.set_cons_zero, List.set_cons_succ])
      refine wpAnyH_take (i := 14) (oi := { dst := some 25, op := Op.fieldAddr 38 (Operand.tmp 1) 5, type := 0, pos := "script.go:19", after := #[{ on := 13, ground := Ground.guard }], guard := some (13, true) }) (v := .pointer (some ⟨B, 5, none⟩)) rfl (by kernel_rfl) (by kernel_rfl) (by kernel_rfl) (fun _ _ _ h => h) (Or.inl ⟨by rfl, ?_⟩) (by assumption) ?_
      · intro w9 hSw
        (try dsimp only at hSw)
        go_simp
      (try simp only [Act.put, List.setIfInBounds_toArray, List.set_cons_zero, List.set_cons_succ])
      refine wpAnyH_take (i := 15) (oi := { dst := some 26, op := Op.load 36 (Operand.tmp 25), type := 36, pos := "script.go:19", after := #[{ on := 14, ground := Ground.data }, { on := 13, ground := Ground.guard }], guard := some (13, true) }) (v := .slice la ln lc) rfl (by kernel_rfl) (by kernel_rfl) (by kernel_rfl) (fun _ _ _ h => h) (Or.inl ⟨by rfl, ?_⟩) (by assumption) ?_
      · intro w9 hSw
        (try dsimp only at hSw)
        go_simp
      (try simp only [Act.put, List.setIfInBounds_toArray, List.set_cons_zero, List.set_cons_succ])
      refine wpAnyH_ready (rs := [16]) (by kernel_rfl) (by simp) ?_
      refine (AllReadyH.cons (o := { dst := some 27, op := Op.call { callee := Callee.value (Operand.func 33), args := #[Operand.tmp 26], argTypes := #[36] }, type := 4, pos := "script.go:19", after := #[{ on := 15, ground := Ground.data }, { on := 13, ground := Ground.chain }, { on := 13, ground := Ground.guard }], guard := some (13, true) }) rfl (fun K hK => ?_) AllReadyH.nil)
      go_simp
      refine (hPat (S0.out.2.2.2.kept K7.out)).mono ?_
      rintro o w7 ⟨rfl, hw7⟩
      subst hw7
      refine hK.out _ _ ?_ (fun hHeld => ?_)
      · exact MK.out _ K7.out
      clear hK K
      (try simp only [Act.put, List.setIfInBounds_toArray, List.set_cons_zero, List.set_cons_succ])
      obtain ⟨pt, hpt⟩ : ∃ pt, isPat zs = pt := ⟨_, rfl⟩
      rw [hpt] at HZ ⊢
      clear hpt
      cases pt with
      | true =>
        refine wpAnyH_take (i := 17) (oi := { dst := some 28, op := Op.unOp UnOp.not 4 (Operand.tmp 27), type := 4, pos := "script.go:19", after := #[{ on := 16, ground := Ground.data }, { on := 13, ground := Ground.guard }], guard := some (13, true) }) (v := .bool false) rfl (by kernel_rfl) (by kernel_rfl) (by kernel_rfl) (fun _ _ _ h => h) (Or.inl ⟨by rfl, ?_⟩) (by assumption) ?_
        · intro w9 hSw
          (try dsimp only at hSw)
          go_simp
        (try simp only [Act.put, List.setIfInBounds_toArray, List.set_cons_zero, List.set_cons_succ])
        refine wpAnyH_take (i := 18) (oi := { dst := some 29, op := Op.pick (Operand.tmp 24) (Operand.tmp 28) (Operand.const (Value.bool false)), type := 4, pos := "script.go:19", after := #[{ on := 13, ground := Ground.data }, { on := 17, ground := Ground.data }, { on := 9, ground := Ground.guard }], guard := some (9, false) }) (v := .bool false) rfl (by kernel_rfl) (by kernel_rfl) (by kernel_rfl) (fun _ _ _ h => h) (Or.inl ⟨by rfl, ?_⟩) (by assumption) ?_
        · intro w9 hSw
          (try dsimp only at hSw)
          go_simp
        (try simp only [Act.put, List.setIfInBounds_toArray, List.set_cons_zero, List.set_cons_succ])
        refine wpAnyH_take (i := 19) (oi := { dst := some 30, op := Op.pick (Operand.tmp 20) (Operand.const (Value.bool true)) (Operand.tmp 29), type := 4, pos := "script.go:19", after := #[{ on := 9, ground := Ground.data }, { on := 18, ground := Ground.data }], guard := none }) (v := .bool false) rfl (by kernel_rfl) (by kernel_rfl) (by kernel_rfl) (fun _ _ _ h => h) (Or.inl ⟨by rfl, ?_⟩) (by assumption) ?_
        · intro w9 hSw
          (try dsimp only at hSw)
          go_simp
        (try simp only [Act.put, List.setIfInBounds_toArray, List.set_cons_zero, List.set_cons_succ])
        have A1 : A = 0 := by rw [HZ, if_neg (fun x => x rfl), if_neg (fun x => by cases x.2)]
        subst A1
        clear HZ hz
        refine wpAnyH_done (by kernel_rfl) ?_ _
        have F : Hid (Kept (fun _ => False) w w7) := S0.out.2.1.trans K7.out (fun _ _ z => z)
        go_wp2_with fail
        go_ret
        exact ⟨by first | rfl | simp, F.out⟩
      | false =>
        refine wpAnyH_take (i := 17) (oi := { dst := some 28, op := Op.unOp UnOp.not 4 (Operand.tmp 27), type := 4, pos := "script.go:19", after := #[{ on := 16, ground := Ground.data }, { on := 13, ground := Ground.guard }], guard := some (13, true) }) (v := .bool true) rfl (by kernel_rfl) (by kernel_rfl) (by kernel_rfl) (fun _ _ _ h => h) (Or.inl ⟨by rfl, ?_⟩) (by assumption) ?_
        · intro w9 hSw
          (try dsimp only at hSw)
          go_simp
        (try simp only [Act.put, List.setIfInBounds_toArray, List.set_cons_zero, List.set_cons_succ])
        refine wpAnyH_take (i := 18) (oi := { dst := some 29, op := Op.pick (Operand.tmp 24) (Operand.tmp 28) (Operand.const (Value.bool false)), type := 4, pos := "script.go:19", after := #[{ on := 13, ground := Ground.data }, { on := 17, ground := Ground.data }, { on := 9, ground := Ground.guard }], guard := some (9, false) }) (v := .bool true) rfl (by kernel_rfl) (by kernel_rfl) (by kernel_rfl) (fun _ _ _ h => h) (Or.inl ⟨by rfl, ?_⟩) (by assumption) ?_
        · intro w9 hSw
          (try dsimp only at hSw)
          go_simp
        (try simp only [Act.put, List.setIfInBounds_toArray, List.set_cons_zero, List.set_cons_succ])
        refine wpAnyH_take (i := 19) (oi := { dst := some 30, op := Op.pick (Operand.tmp 20) (Operand.const (Value.bool true)) (Operand.tmp 29), type := 4, pos := "script.go:19", after := #[{ on := 9, ground := Ground.data }, { on := 18, ground := Ground.data }], guard := none }) (v := .bool true) rfl (by kernel_rfl) (by kernel_rfl) (by kernel_rfl) (fun _ _ _ h => h) (Or.inl ⟨by rfl, ?_⟩) (by assumption) ?_
        · intro w9 hSw
          (try dsimp only at hSw)
          go_simp
        (try simp only [Act.put, List.setIfInBounds_toArray, List.set_cons_zero, List.set_cons_succ])
        have A1 : A = 1 := by rw [HZ, if_neg (fun x => x rfl), if_pos ⟨hk9, rfl⟩]
        subst A1
        clear HZ hz
        refine wpAnyH_done (by kernel_rfl) ?_ _
        have F : Hid (Kept (fun _ => False) w w7) := S0.out.2.1.trans K7.out (fun _ _ z => z)
        go_wp2_with fail
        go_ret
        exact ⟨by first | rfl | simp, F.out⟩
    · refine wpAnyH_take (i := 12) (oi := { dst := some 23, op := Op.binOp BinOp.eql 3 (Operand.tmp 22) (Operand.const (Value.int IntKind.i64 9)) 3, type := 4, pos := "script.go:19", after := #[{ on := 11, ground := Ground.data }, { on := 9, ground := Ground.guard }], guard := some (9, false) }) (v := .bool false) rfl (by kernel_rfl) (by kernel_rfl) (by kernel_rfl) (fun _ _ _ h => h) (Or.inl ⟨by rfl, ?_⟩) (by assumption) ?_
      · intro w9 hSw
        (try dsimp only at hSw)
        go_simp
      (try simp only [Act.put, List.setIfInBounds_toArray, List.set_cons_zero, List.set_cons_succ])
      refine wpAnyH_take (i := 13) (oi := { dst := some 24, op := Op.move (Operand.tmp 23), type := 4, pos := "script.go:19", after := #[{ on := 12, ground := Ground.data }, { on := 9, ground := Ground.chain }, { on := 9, ground := Ground.guard }], guard := some (9, false) }) (v := .bool false) rfl (by kernel_rfl) (by kernel_rfl) (by kernel_rfl) (fun _ _ _ h => h) (Or.inl ⟨by rfl, ?_⟩) (by assumption) ?_
      · intro w9 hSw
        (try dsimp only at hSw)
        go_simp
      (try simp only [Act.put, List.setIfInBounds_toArray, List.set_cons_zero, List.set_cons_succ])
      refine wpAnyH_take (i := 14) (oi := { dst := some 25, op := Op.fieldAddr 38 (Operand.tmp 1) 5, type := 0, pos := "script.go:19", after := #[{ on := 13, ground := Ground.guard }], guard := some (13, true) }) (v := undef) rfl (by kernel_rfl) (by kernel_rfl) (by kernel_rfl) (fun _ _ _ h => h) (Or.inr ⟨by rfl, rfl⟩) (by assumption) ?_
      (try simp only [Act.put, List.setIfInBounds_toArray, List.set_cons_zero, List.set_cons_succ])
      refine wpAnyH_take (i := 15) (oi := { dst := some 26, op := Op.load 36 (Operand.tmp 25), type := 36, pos := "script.go:19", after := #[{ on := 14, ground := Ground.data }, { on := 13, ground := Ground.guard }], guard := some (13, true) }) (v := undef) rfl (by kernel_rfl) (by kernel_rfl) (by kernel_rfl) (fun _ _ _ h => h) (Or.inr ⟨by rfl, rfl⟩) (by assumption) ?_
      (try simp only [Act.put, List.setIfInBounds_toArray, List.set_cons_zero, List.set_cons_succ])
      refine wpAnyH_take (i := 16) (oi := { dst := some 27, op := Op.call { callee := Callee.value (Operand.func 33), args := #[Operand.tmp 26], argTypes := #[36] }, type := 4, pos := "script.go:19", after := #[{ on := 15, ground := Ground.data }, { on := 13, ground := Ground.chain }, { on := 13, ground := Ground.guard }], guard := some (13, true) }) (v := undef) rfl (by kernel_rfl) (by kernel_rfl) (by kernel_rfl) (fun _ _ _ h => h) (Or.inr ⟨by rfl, rfl⟩) (by assumption) ?_
      (try simp only [Act.put, List.setIfInBounds_toArray, List.set_cons_zero, List.set_cons_succ])
      refine wpAnyH_take (i := 17) (oi := { dst := some 28, op := Op.unOp UnOp.not 4 (Operand.tmp 27), type := 4, pos := "script.go:19", after := #[{ on := 16, ground := Ground.data }, { on := 13, ground := Ground.guard }], guard := some (13, true) }) (v := undef) rfl (by kernel_rfl) (by kernel_rfl) (by kernel_rfl) (fun _ _ _ h => h) (Or.inr ⟨by rfl, rfl⟩) (by assumption) ?_
      (try simp only [Act.put, List.setIfInBounds_toArray, List.set_cons_zero, List.set_cons_succ])
      refine wpAnyH_take (i := 18) (oi := { dst := some 29, op := Op.pick (Operand.tmp 24) (Operand.tmp 28) (Operand.const (Value.bool false)), type := 4, pos := "script.go:19", after := #[{ on := 13, ground := Ground.data }, { on := 17, ground := Ground.data }, { on := 9, ground := Ground.guard }], guard := some (9, false) }) (v := .bool false) rfl (by kernel_rfl) (by kernel_rfl) (by kernel_rfl) (fun _ _ _ h => h) (Or.inl ⟨by rfl, ?_⟩) (by assumption) ?_
      · intro w9 hSw
        (try dsimp only at hSw)
        go_simp
      (try simp only [Act.put, List.setIfInBounds_toArray, List.set_cons_zero, List.set_cons_succ])
      refine wpAnyH_take (i := 19) (oi := { dst := some 30, op := Op.pick (Operand.tmp 20) (Operand.const (Value.bool true)) (Operand.tmp 29), type := 4, pos := "script.go:19", after := #[{ on := 9, ground := Ground.data }, { on := 18, ground := Ground.data }], guard := none }) (v := .bool false) rfl (by kernel_rfl) (by kernel_rfl) (by kernel_rfl) (fun _ _ _ h => h) (Or.inl ⟨by rfl, ?_⟩) (by assumption) ?_
      · intro w9 hSw
        (try dsimp only at hSw)
        go_simp
      (try simp only [Act.put, List.setIfInBounds_toArray, List.set_cons_zero, List.set_cons_succ])
      have A1 : A = 0 := by rw [HZ, if_neg (fun x => x rfl), if_neg (fun x => hk9 x.1)]
      subst A1
      clear HZ hz
      refine wpAnyH_done (by kernel_rfl) ?_ _
      have F : Hid (Kept (fun _ => False) w w6) := S0.out.2.1.trans K7.out (fun _ _ z => z)
      go_wp2_with fail
      go_ret
      exact ⟨by first | rfl | simp, F.out⟩
  · refine wpAnyH_take (i := 8) (oi := { dst := some 19, op := Op.binOp BinOp.neq 5 (Operand.tmp 18) (Operand.const (Value.int IntKind.u8 0)) 5, type := 4, pos := "script.go:19", after := #[{ on := 7, ground := Ground.data }], guard := none }) (v := .bool true) rfl (by kernel_rfl) (by kernel_rfl) (by kernel_rfl) (fun _ _ _ h => h) (Or.inl ⟨by rfl, ?_⟩) (by assumption) ?_
    · intro w9 hSw
      (try dsimp only at hSw)
      go_simp
    (try simp only [Act.put, List.setIfInBounds_toArray, List.set_cons_zero, List.set_cons_succ])
    refine wpAnyH_take (i := 9) (oi := { dst := some 20, op := Op.move (Operand.tmp 19), type := 4, pos := "script.go:19", after := #[{ on := 8, ground := Ground.data }, { on := 1, ground := Ground.chain }], guard := none }) (v := .bool true) rfl (by kernel_rfl) (by kernel_rfl) (by kernel_rfl) (fun _ _ _ h => h) (Or.inl ⟨by rfl, ?_⟩) (by assumption) ?_
    · intro w9 hSw
      (try dsimp only at hSw)
      go_simp
    (try simp only [Act.put, List.setIfInBounds_toArray, List.set_cons_zero, List.set_cons_succ])
    refine wpAnyH_take (i := 10) (oi := { dst := some 21, op := Op.fieldAddr 38 (Operand.tmp 1) 0, type := 0, pos := "script.go:19", after := #[{ on := 9, ground := Ground.guard }], guard := some (9, false) }) (v := undef) rfl (by kernel_rfl) (by kernel_rfl) (by kernel_rfl) (fun _ _ _ h => h) (Or.inr ⟨by rfl, rfl⟩) (by assumption) ?_
    (try simp only [Act.put, List.setIfInBounds_toArray, List.set_cons_zero, List.set_cons_succ])
    refine wpAnyH_take (i := 11) (oi := { dst := some 22, op := Op.load 3 (Operand.tmp 21), type := 3, pos := "script.go:19", after := #[{ on := 10, ground := Ground.data }, { on := 9, ground := Ground.guard }], guard := some (9, false) }) (v := undef) rfl (by kernel_rfl) (by kernel_rfl) (by kernel_rfl) (fun _ _ _ h => h) (Or.inr ⟨by rfl, rfl⟩) (by assumption) ?_
    (try simp only [Act.put, List.setIfInBounds_toArray, List.set_cons_zero, List.set_cons_succ])
    refine wpAnyH_take (i := 12) (oi := { dst := some 23, op := Op.binOp BinOp.eql 3 (Operand.tmp 22) (Operand.const (Value.int IntKind.i64 9)) 3, type := 4, pos := "script.go:19", after := #[{ on := 11, ground := Ground.data }, { on := 9, ground := Ground.guard }], guard := some (9, false) }) (v := undef) rfl (by kernel_rfl) (by kernel_rfl) (by kernel_rfl) (fun _ _ _ h => h) (Or.inr ⟨by rfl, rfl⟩) (by assumption) ?_
    (try simp only [Act.put, List.setIfInBounds_toArray, List.set_cons_zero, List.set_cons_succ])
    refine wpAnyH_take (i := 13) (oi := { dst := some 24, op := Op.move (Operand.tmp 23), type := 4, pos := "script.go:19", after := #[{ on := 12, ground := Ground.data }, { on := 9, ground := Ground.chain }, { on := 9, ground := Ground.guard }], guard := some (9, false) }) (v := undef) rfl (by kernel_rfl) (by kernel_rfl) (by kernel_rfl) (fun _ _ _ h => h) (Or.inr ⟨by rfl, rfl⟩) (by assumption) ?_
    (try simp only [Act.put, List.setIfInBounds_toArray, List.set_cons_zero, List.set_cons_succ])
    refine wpAnyH_take (i := 14) (oi := { dst := some 25, op := Op.fieldAddr 38 (Operand.tmp 1) 5, type := 0, pos := "script.go:19", after := #[{ on := 13, ground := Ground.guard }], guard := some (13, true) }) (v := undef) rfl (by kernel_rfl) (by kernel_rfl) (by kernel_rfl) (fun _ _ _ h => h) (Or.inr ⟨by rfl, rfl⟩) (by assumption) ?_
    (try simp only [Act.put, List.setIfInBounds_toArray, List.set_cons_zero, List.set_cons_succ])
    refine wpAnyH_take (i := 15) (oi := { dst := some 26, op := Op.load 36 (Operand.tmp 25), type := 36, pos := "script.go:19", after := #[{ on := 14, ground := Ground.data }, { on := 13, ground := Ground.guard }], guard := some (13, true) }) (v := undef) rfl (by kernel_rfl) (by kernel_rfl) (by kernel_rfl) (fun _ _ _ h => h) (Or.inr ⟨by rfl, rfl⟩) (by assumption) ?_
    (try simp only [Act.put, List.setIfInBounds_toArray, List.set_cons_zero, List.set_cons_succ])
    refine wpAnyH_take (i := 16) (oi := { dst := some 27, op := Op.call { callee := Callee.value (Operand.func 33), args := #[Operand.tmp 26], argTypes := #[36] }, type := 4, pos := "script.go:19", after := #[{ on := 15, ground := Ground.data }, { on := 13, ground := Ground.chain }, { on := 13, ground := Ground.guard }], guard := some (13, true) }) (v := undef) rfl (by kernel_rfl) (by kernel_rfl) (by kernel_rfl) (fun _ _ _ h => h) (Or.inr ⟨by rfl, rfl⟩) (by assumption) ?_
    (try simp only [Act.put, List.setIfInBounds_toArray, List.set_cons_zero, List.set_cons_succ])
    refine wpAnyH_take (i := 17) (oi := { dst := some 28, op := Op.unOp UnOp.not 4 (Operand.tmp 27), type := 4, pos := "script.go:19", after := #[{ on := 16, ground := Ground.data }, { on := 13, ground := Ground.guard }], guard := some (13, true) }) (v := undef) rfl (by kernel_rfl) (by kernel_rfl) (by kernel_rfl) (fun _ _ _ h => h) (Or.inr ⟨by rfl, rfl⟩) (by assumption) ?_
    (try simp only [Act.put, List.setIfInBounds_toArray, List.set_cons_zero, List.set_cons_succ])
    refine wpAnyH_take (i := 18) (oi := { dst := some 29, op := Op.pick (Operand.tmp 24) (Operand.tmp 28) (Operand.const (Value.bool false)), type := 4, pos := "script.go:19", after := #[{ on := 13, ground := Ground.data }, { on := 17, ground := Ground.data }, { on := 9, ground := Ground.guard }], guard := some (9, false) }) (v := undef) rfl (by kernel_rfl) (by kernel_rfl) (by kernel_rfl) (fun _ _ _ h => h) (Or.inr ⟨by rfl, rfl⟩) (by assumption) ?_
    (try simp only [Act.put, List.setIfInBounds_toArray, List.set_cons_zero, List.set_cons_succ])
    refine wpAnyH_take (i := 19) (oi := { dst := some 30, op := Op.pick (Operand.tmp 20) (Operand.const (Value.bool true)) (Operand.tmp 29), type := 4, pos := "script.go:19", after := #[{ on := 9, ground := Ground.data }, { on := 18, ground := Ground.data }], guard := none }) (v := .bool true) rfl (by kernel_rfl) (by kernel_rfl) (by kernel_rfl) (fun _ _ _ h => h) (Or.inl ⟨by rfl, ?_⟩) (by assumption) ?_
    · intro w9 hSw
      (try dsimp only at hSw)
      go_simp
    (try simp only [Act.put, List.setIfInBounds_toArray, List.set_cons_zero, List.set_cons_succ])
    have A1 : A = 1 := by rw [HZ, if_pos hz0]
    subst A1
    clear HZ hz
    refine wpAnyH_done (by kernel_rfl) ?_ _
    have F : Hid (Kept (fun _ => False) w w6) := S0.out.2.1.trans K7.out (fun _ _ z => z)
    go_wp2_with fail
    go_ret
    exact ⟨by first | rfl | simp, F.out⟩
end Go.Proofs.YtonfefhegghapaaDoor
