import Derived.Test.YtbangbobfeflcaaGreatDoorRQu
namespace Go.Proofs.YtbangbobfeflcaaGreatDoor
open Go.RowKit 

theorem one_str {w : World} {b d : Nat} (h : w.heap[b]? = some (.cells #[.int .u8 (d : Int)] 5 (0, 0))) (hd : d < 256) : (convert 34 9 (.slice (some ⟨b, 0, none⟩) 1 1)).run Tryz.prog w = .ok (.string ⟨#[UInt8.ofNat d]⟩) w := by
  exact run_convert_bytes_back (P := Tryz.prog) w 34 9 5 ⟨b, 0, none⟩ 1 [UInt8.ofNat d] Tryz.underlying34 Tryz.underlying5 Tryz.underlying9 (fun j hj => by
    have : j = 0 := by simpa using hj
    subst this
    rw [Addr.add_none]
    refine cell_blk h 0 ?_
    simp
    omega)
theorem dec_small {u : Nat} (h : u < 10) : Lib.decDigits u = [UInt8.ofNat (48 + u)] := by
  rw [Lib.decDigits, dif_pos h]
theorem dec_big {u : Nat} (h : ¬ u < 10) : Lib.decDigits u = Lib.decDigits (u / 10) ++ [UInt8.ofNat (48 + u % 10)] := by
  conv => lhs; rw [Lib.decDigits, dif_neg h]
def decB (u : Nat) : ByteArray := ⟨(Lib.decDigits u).toArray⟩
theorem decB_it (u : Nat) : decB u = itB (u : Int) := by unfold decB itB; rw [Lib.itoa_nonneg]
theorem decB_size {u : Nat} (h : u < 9223372036854775808) : (decB u).size ≤ 21 := by rw [decB_it]; exact itB_size _ ⟨by omega, by omega⟩
theorem decB_big {u : Nat} (h : ¬ u < 10) : decB u = decB (u / 10) ++ ⟨#[UInt8.ofNat (48 + u % 10)]⟩ := by
  unfold decB
  rw [dec_big h]
  apply ByteArray.ext
  rw [ByteArray.data_append]
  simp
set_option maxRecDepth 100000 in
set_option maxHeartbeats 2000000 in
theorem hRNum : ∀ (f N : Nat), N < f → N < 9223372036854775808 → ∀ w : World, Calls Tryz.prog 74 #[.int .i64 (N : Int)] w fun o w' => o = .returned (.string (decB N)) ∧ Kept (fun _ => False) w w'
  | 0, N, h, _, _ => absurd h (Nat.not_lt_zero _)
  | f + 1, N, hf, hN, w => by
    by_cases hs : N < 10
    · have e : Hid (decB N = ⟨#[UInt8.ofNat (48 + N)]⟩) := by
        show decB N = _
        unfold decB
        rw [dec_small hs]
      have K0 : Hid (Kept (fun _ => False) w (w.alloc (.cells #[.int .u8 ((48 + N : Nat) : Int)] 5))) := (Kept.refl _ _).alloc _
      obtain ⟨d, hd⟩ : ∃ d, 48 + N = d := ⟨_, rfl⟩
      rw [hd] at e K0
      have c1 := one_string w d (by omega)
      have e1 : 48 + (N : Int) = (d : Int) := by omega
      have e2 : IntKind.i64.wrap (d : Int) = (d : Int) := by rw [IntKind.wrap_i64]; omega
      have e3 : IntKind.u8.wrap (d : Int) = (d : Int) := by rw [IntKind.wrap_u8]; omega
      have i1 : (N : Int) < 10 := by omega
      rw [e.out]
      clear hs hd e
      go_enter Tryz.func74, Tryz.ntmps74
      go_wp2_with fail
      go_ret
      exact ⟨by first | rfl | simp, K0.out⟩
    · have i1 : ¬ (N : Int) < 10 := by omega
      have IH' := hRNum f (N / 10) (by omega) (by omega)
      obtain ⟨Q, hQ⟩ : ∃ Q, N / 10 = Q := ⟨_, rfl⟩
      obtain ⟨R, hR⟩ : ∃ R, N % 10 = R := ⟨_, rfl⟩
      obtain ⟨d, hd⟩ : ∃ d, 48 + R = d := ⟨_, rfl⟩
      have e := decB_big hs
      rw [hR, hQ, hd] at e
      rw [hQ] at IH'
      have zb := decB_size (u := Q) (by omega)
      obtain ⟨A, hA⟩ : ∃ A, decB Q = A := ⟨_, rfl⟩
      obtain ⟨C, hC⟩ : ∃ C, decB N = C := ⟨_, rfl⟩
      rw [hA] at e IH' zb
      rw [hC] at e ⊢
      have IH : Hid (∀ w : World, Calls Tryz.prog 74 #[.int .i64 (Q : Int)] w fun o w' => o = .returned (.string A) ∧ Kept (fun _ => False) w w') := IH'
      have add1 : ∀ U, (Op.stringOp .add A ⟨#[UInt8.ofNat d]⟩).run Tryz.prog U = .ok (.string C) U := fun U => by rw [run_string_add_sum U A ⟨#[UInt8.ofNat d]⟩ (by show A.size + 1 ≤ _; omega), e]
      have b1 : (N : Int) / 10 = (Q : Int) := by omega
      have b1' : (N : Int).tdiv 10 = (Q : Int) := by rw [Int.tdiv_eq_ediv_of_nonneg (by omega)]; omega
      have b2 : (N : Int) % 10 = (R : Int) := by omega
      have b2' : (N : Int).tmod 10 = (R : Int) := by rw [Int.tmod_eq_emod_of_nonneg (by omega)]; omega
      have b3 : IntKind.i64.wrap (Q : Int) = (Q : Int) := by rw [IntKind.wrap_i64]; omega
      have b4 : IntKind.i64.wrap (R : Int) = (R : Int) := by rw [IntKind.wrap_i64]; omega
      have b5 : 48 + (R : Int) = (d : Int) := by omega
      have b6 : IntKind.i64.wrap (d : Int) = (d : Int) := by rw [IntKind.wrap_i64]; omega
      have b7 : IntKind.u8.wrap (d : Int) = (d : Int) := by rw [IntKind.wrap_u8]; omega
      have KD : Hid (Kept (fun _ => False) w w.drew) := (Kept.refl _ _).drew
      clear IH' hA hC e hQ hR hs zb
      go_enter Tryz.func74, Tryz.ntmps74
      go_upto_region 3 with fail
      refine wp_region_held_drew (S := (fun _ => True)) (by kernel_rfl) trivial (fun hHeld => ?_)
      refine wpAnyH_take (i := 0) (oi := { dst := some 10, op := Go.Op.move (Go.Operand.tmp 0), type := 2, pos := "ref.go:199", after := #[], guard := none }) (v := .int .i64 (N : Int)) rfl (by kernel_rfl) (by kernel_rfl) (by kernel_rfl) (fun _ _ _ h => h) (Or.inl ⟨by rfl, ?_⟩) (by assumption) ?_
      · intro w9 hSw
        (try dsimp only at hSw)
        go_simp
      (try simp only [Act.put, List.setIfInBounds_toArray, List.set_cons_zero, List.set_cons_succ])
      refine wpAnyH_take (i := 1) (oi := { dst := some 11, op := Go.Op.binOp Go.BinOp.quo 2 (Go.Operand.tmp 10) (Go.Operand.const (Go.Value.int Go.IntKind.i64 10)) 2, type := 2, pos := "ref.go:199", after := #[{ on := 0, ground := Go.Ground.data }], guard := none }) (v := .int .i64 (Q : Int)) rfl (by kernel_rfl) (by kernel_rfl) (by kernel_rfl) (fun _ _ _ h => h) (Or.inl ⟨by rfl, ?_⟩) (by assumption) ?_
      · intro w9 hSw
        (try dsimp only at hSw)
        go_simp
      (try simp only [Act.put, List.setIfInBounds_toArray, List.set_cons_zero, List.set_cons_succ])
      refine wpAnyH_take (i := 3) (oi := { dst := some 13, op := Go.Op.move (Go.Operand.tmp 0), type := 2, pos := "ref.go:199", after := #[], guard := none }) (v := .int .i64 (N : Int)) rfl (by kernel_rfl) (by kernel_rfl) (by kernel_rfl) (fun _ _ _ h => h) (Or.inl ⟨by rfl, ?_⟩) (by assumption) ?_
      · intro w9 hSw
        (try dsimp only at hSw)
        go_simp
      (try simp only [Act.put, List.setIfInBounds_toArray, List.set_cons_zero, List.set_cons_succ])
      refine wpAnyH_take (i := 4) (oi := { dst := some 14, op := Go.Op.binOp Go.BinOp.rem 2 (Go.Operand.tmp 13) (Go.Operand.const (Go.Value.int Go.IntKind.i64 10)) 2, type := 2, pos := "ref.go:199", after := #[{ on := 3, ground := Go.Ground.data }], guard := none }) (v := .int .i64 (R : Int)) rfl (by kernel_rfl) (by kernel_rfl) (by kernel_rfl) (fun _ _ _ h => h) (Or.inl ⟨by rfl, ?_⟩) (by assumption) ?_
      · intro w9 hSw
        (try dsimp only at hSw)
        go_simp
      (try simp only [Act.put, List.setIfInBounds_toArray, List.set_cons_zero, List.set_cons_succ])
      refine wpAnyH_take (i := 5) (oi := { dst := some 15, op := Go.Op.binOp Go.BinOp.add 2 (Go.Operand.const (Go.Value.int Go.IntKind.i64 48)) (Go.Operand.tmp 14) 2, type := 2, pos := "ref.go:199", after := #[{ on := 4, ground := Go.Ground.data }], guard := none }) (v := .int .i64 (d : Int)) rfl (by kernel_rfl) (by kernel_rfl) (by kernel_rfl) (fun _ _ _ h => h) (Or.inl ⟨by rfl, ?_⟩) (by assumption) ?_
      · intro w9 hSw
        (try dsimp only at hSw)
        go_simp
      (try simp only [Act.put, List.setIfInBounds_toArray, List.set_cons_zero, List.set_cons_succ])
      refine wpAnyH_take (i := 6) (oi := { dst := some 16, op := Go.Op.convert 2 5 (Go.Operand.tmp 15), type := 5, pos := "ref.go:199", after := #[{ on := 5, ground := Go.Ground.data }], guard := none }) (v := .int .u8 (d : Int)) rfl (by kernel_rfl) (by kernel_rfl) (by kernel_rfl) (fun _ _ _ h => h) (Or.inl ⟨by rfl, ?_⟩) (by assumption) ?_
      · intro w9 hSw
        (try dsimp only at hSw)
        go_simp
      (try simp only [Act.put, List.setIfInBounds_toArray, List.set_cons_zero, List.set_cons_succ])
      refine wpAnyH_ready (rs := [2, 7]) (by kernel_rfl) (by simp) ?_
      refine (AllReadyH.cons (o := { dst := some 12, op := Go.Op.call { callee := Go.Callee.value (Go.Operand.func 74), args := #[Go.Operand.tmp 11], argTypes := #[2] }, type := 9, pos := "ref.go:199", after := #[{ on := 1, ground := Go.Ground.data }], guard := none }) rfl (fun K hK => ?_) (AllReadyH.cons (o := { dst := some 17, op := Go.Op.buildSlice 34 1 #[(0, Go.Operand.tmp 16)], type := 34, pos := "ref.go:199", after := #[{ on := 6, ground := Go.Ground.data }], guard := none }) rfl (fun K hK => ?_) AllReadyH.nil))
      · go_simp
        refine (IH.out _).mono ?_
        rintro o w2 ⟨rfl, J2⟩
        have K2 : Hid (Kept (fun _ => False) w w2) := KD.out.trans J2 (fun _ _ z => z)
        clear J2
        refine hK.out _ _ ?_ (fun hHeld => ?_)
        · exact trivial
        clear hK K
        (try simp only [Act.put, List.setIfInBounds_toArray, List.set_cons_zero, List.set_cons_succ])
        refine wpAnyH_ready (rs := [7]) (by kernel_rfl) (by simp) ?_
        refine (AllReadyH.cons (o := { dst := some 17, op := Go.Op.buildSlice 34 1 #[(0, Go.Operand.tmp 16)], type := 34, pos := "ref.go:199", after := #[{ on := 6, ground := Go.Ground.data }], guard := none }) rfl (fun K hK => ?_) AllReadyH.nil)
        go_simp
        refine hK.out _ _ ?_ (fun hHeld => ?_)
        · exact trivial
        clear hK K
        (try simp only [Act.put, List.setIfInBounds_toArray, List.set_cons_zero, List.set_cons_succ])
        refine wpAnyH_ready (rs := [8]) (by kernel_rfl) (by simp) ?_
        refine (AllReadyH.cons (o := { dst := some 18, op := Go.Op.convert 34 9 (Go.Operand.tmp 17), type := 9, pos := "ref.go:199", after := #[{ on := 7, ground := Go.Ground.data }], guard := none }) rfl (fun K hK => ?_) AllReadyH.nil)
        have cv := one_string w2 d (by omega)
        go_simp
        refine hK.out _ _ ?_ (fun hHeld => ?_)
        · exact trivial
        clear hK K
        (try simp only [Act.put, List.setIfInBounds_toArray, List.set_cons_zero, List.set_cons_succ])
        refine wpAnyH_take (i := 9) (oi := { dst := some 19, op := Go.Op.binOp Go.BinOp.add 9 (Go.Operand.tmp 12) (Go.Operand.tmp 18) 9, type := 9, pos := "ref.go:199", after := #[{ on := 2, ground := Go.Ground.data }, { on := 8, ground := Go.Ground.data }], guard := none }) (v := .string C) rfl (by kernel_rfl) (by kernel_rfl) (by kernel_rfl) (fun _ _ _ h => h) (Or.inl ⟨by rfl, ?_⟩) (by assumption) ?_
        · intro w9 hSw
          (try dsimp only at hSw)
          go_simp
        (try simp only [Act.put, List.setIfInBounds_toArray, List.set_cons_zero, List.set_cons_succ])
        refine wpAnyH_take (i := 10) (oi := { dst := some 2, op := Go.Op.assign (Go.Operand.tmp 19), type := 9, pos := "ref.go:199", after := #[{ on := 9, ground := Go.Ground.data }, { on := 2, ground := Go.Ground.chain }, { on := 0, ground := Go.Ground.phase }, { on := 1, ground := Go.Ground.phase }, { on := 2, ground := Go.Ground.phase }, { on := 3, ground := Go.Ground.phase }, { on := 4, ground := Go.Ground.phase }, { on := 5, ground := Go.Ground.phase }, { on := 6, ground := Go.Ground.phase }, { on := 7, ground := Go.Ground.phase }, { on := 8, ground := Go.Ground.phase }, { on := 9, ground := Go.Ground.phase }], guard := none }) (v := .string C) rfl (by kernel_rfl) (by kernel_rfl) (by kernel_rfl) (fun _ _ _ h => h) (Or.inl ⟨by rfl, ?_⟩) (by assumption) ?_
        · intro w9 hSw
          (try dsimp only at hSw)
          go_simp
        (try simp only [Act.put, List.setIfInBounds_toArray, List.set_cons_zero, List.set_cons_succ])
        refine wpAnyH_done (by kernel_rfl) ?_ _
        clear hHeld
        go_wp2_with fail
        go_ret
        exact ⟨by first | rfl | simp, K2.out.alloc _⟩
      · go_simp
        refine hK.out _ _ ?_ (fun hHeld => ?_)
        · exact trivial
        clear hK K
        (try simp only [Act.put, List.setIfInBounds_toArray, List.set_cons_zero, List.set_cons_succ])
        refine wpAnyH_ready (rs := [2, 8]) (by kernel_rfl) (by simp) ?_
        refine (AllReadyH.cons (o := { dst := some 12, op := Go.Op.call { callee := Go.Callee.value (Go.Operand.func 74), args := #[Go.Operand.tmp 11], argTypes := #[2] }, type := 9, pos := "ref.go:199", after := #[{ on := 1, ground := Go.Ground.data }], guard := none }) rfl (fun K hK => ?_) (AllReadyH.cons (o := { dst := some 18, op := Go.Op.convert 34 9 (Go.Operand.tmp 17), type := 9, pos := "ref.go:199", after := #[{ on := 7, ground := Go.Ground.data }], guard := none }) rfl (fun K hK => ?_) AllReadyH.nil))
        · go_simp
          refine (IH.out _).mono ?_
          rintro o w2 ⟨rfl, J2⟩
          have K2 : Hid (Kept (fun _ => False) w w2) := (KD.out.alloc _).trans J2 (fun _ _ z => z)
          have bb : w2.heap[(w.drew).heap.size]? = some (.cells #[.int .u8 (d : Int)] 5 (0, 0)) := J2.get (alloc_new _ _) (fun z => z)
          clear J2
          refine hK.out _ _ ?_ (fun hHeld => ?_)
          · exact trivial
          clear hK K
          (try simp only [Act.put, List.setIfInBounds_toArray, List.set_cons_zero, List.set_cons_succ])
          refine wpAnyH_ready (rs := [8]) (by kernel_rfl) (by simp) ?_
          refine (AllReadyH.cons (o := { dst := some 18, op := Go.Op.convert 34 9 (Go.Operand.tmp 17), type := 9, pos := "ref.go:199", after := #[{ on := 7, ground := Go.Ground.data }], guard := none }) rfl (fun K hK => ?_) AllReadyH.nil)
          have cv : (convert 34 9 (.slice (some ⟨w.heap.size, 0, none⟩) 1 1)).run Tryz.prog w2 = .ok (.string ⟨#[UInt8.ofNat d]⟩) w2 := one_str bb (by omega)
          go_simp
          refine hK.out _ _ ?_ (fun hHeld => ?_)
          · exact trivial
          clear hK K
          (try simp only [Act.put, List.setIfInBounds_toArray, List.set_cons_zero, List.set_cons_succ])
          refine wpAnyH_take (i := 9) (oi := { dst := some 19, op := Go.Op.binOp Go.BinOp.add 9 (Go.Operand.tmp 12) (Go.Operand.tmp 18) 9, type := 9, pos := "ref.go:199", after := #[{ on := 2, ground := Go.Ground.data }, { on := 8, ground := Go.Ground.data }], guard := none }) (v := .string C) rfl (by kernel_rfl) (by kernel_rfl) (by kernel_rfl) (fun _ _ _ h => h) (Or.inl ⟨by rfl, ?_⟩) (by assumption) ?_
          · intro w9 hSw
            (try dsimp only at hSw)
            go_simp
          (try simp only [Act.put, List.setIfInBounds_toArray, List.set_cons_zero, List.set_cons_succ])
          refine wpAnyH_take (i := 10) (oi := { dst := some 2, op := Go.Op.assign (Go.Operand.tmp 19), type := 9, pos := "ref.go:199", after := #[{ on := 9, ground := Go.Ground.data }, { on := 2, ground := Go.Ground.chain }, { on := 0, ground := Go.Ground.phase }, { on := 1, ground := Go.Ground.phase }, { on := 2, ground := Go.Ground.phase }, { on := 3, ground := Go.Ground.phase }, { on := 4, ground := Go.Ground.phase }, { on := 5, ground := Go.Ground.phase }, { on := 6, ground := Go.Ground.phase }, { on := 7, ground := Go.Ground.phase }, { on := 8, ground := Go.Ground.phase }, { on := 9, ground := Go.Ground.phase }], guard := none }) (v := .string C) rfl (by kernel_rfl) (by kernel_rfl) (by kernel_rfl) (fun _ _ _ h => h) (Or.inl ⟨by rfl, ?_⟩) (by assumption) ?_
          · intro w9 hSw
            (try dsimp only at hSw)
            go_simp
          (try simp only [Act.put, List.setIfInBounds_toArray, List.set_cons_zero, List.set_cons_succ])
          refine wpAnyH_done (by kernel_rfl) ?_ _
          clear hHeld
          go_wp2_with fail
          go_ret
          exact ⟨by first | rfl | simp, K2.out⟩
        · have cv : (convert 34 9 (.slice (some ⟨w.heap.size, 0, none⟩) 1 1)).run Tryz.prog (w.alloc (.cells #[.int .u8 (d : Int)] 5)).drew = .ok (.string ⟨#[UInt8.ofNat d]⟩) (w.alloc (.cells #[.int .u8 (d : Int)] 5)).drew := one_str (alloc_new w _) (by omega)
          go_simp
          refine hK.out _ _ ?_ (fun hHeld => ?_)
          · exact trivial
          clear hK K
          (try simp only [Act.put, List.setIfInBounds_toArray, List.set_cons_zero, List.set_cons_succ])
          refine wpAnyH_ready (rs := [2]) (by kernel_rfl) (by simp) ?_
          refine (AllReadyH.cons (o := { dst := some 12, op := Go.Op.call { callee := Go.Callee.value (Go.Operand.func 74), args := #[Go.Operand.tmp 11], argTypes := #[2] }, type := 9, pos := "ref.go:199", after := #[{ on := 1, ground := Go.Ground.data }], guard := none }) rfl (fun K hK => ?_) AllReadyH.nil)
          go_simp
          refine (IH.out _).mono ?_
          rintro o w2 ⟨rfl, J2⟩
          have K2 : Hid (Kept (fun _ => False) w w2) := (KD.out.alloc _).trans J2 (fun _ _ z => z)
          clear J2
          refine hK.out _ _ ?_ (fun hHeld => ?_)
          · exact trivial
          clear hK K
          (try simp only [Act.put, List.setIfInBounds_toArray, List.set_cons_zero, List.set_cons_succ])
          refine wpAnyH_take (i := 9) (oi := { dst := some 19, op := Go.Op.binOp Go.BinOp.add 9 (Go.Operand.tmp 12) (Go.Operand.tmp 18) 9, type := 9, pos := "ref.go:199", after := #[{ on := 2, ground := Go.Ground.data }, { on := 8, ground := Go.Ground.data }], guard := none }) (v := .string C) rfl (by kernel_rfl) (by kernel_rfl) (by kernel_rfl) (fun _ _ _ h => h) (Or.inl ⟨by rfl, ?_⟩) (by assumption) ?_
          · intro w9 hSw
            (try dsimp only at hSw)
            go_simp
          (try simp only [Act.put, List.setIfInBounds_toArray, List.set_cons_zero, List.set_cons_succ])
          refine wpAnyH_take (i := 10) (oi := { dst := some 2, op := Go.Op.assign (Go.Operand.tmp 19), type := 9, pos := "ref.go:199", after := #[{ on := 9, ground := Go.Ground.data }, { on := 2, ground := Go.Ground.chain }, { on := 0, ground := Go.Ground.phase }, { on := 1, ground := Go.Ground.phase }, { on := 2, ground := Go.Ground.phase }, { on := 3, ground := Go.Ground.phase }, { on := 4, ground := Go.Ground.phase }, { on := 5, ground := Go.Ground.phase }, { on := 6, ground := Go.Ground.phase }, { on := 7, ground := Go.Ground.phase }, { on := 8, ground := Go.Ground.phase }, { on := 9, ground := Go.Ground.phase }], guard := none }) (v := .string C) rfl (by kernel_rfl) (by kernel_rfl) (by kernel_rfl) (fun _ _ _ h => h) (Or.inl ⟨by rfl, ?_⟩) (by assumption) ?_
          · intro w9 hSw
            (try dsimp only at hSw)
            go_simp
          (try simp only [Act.put, List.setIfInBounds_toArray, List.set_cons_zero, List.set_cons_succ])
          refine wpAnyH_done (by kernel_rfl) ?_ _
          clear hHeld
          go_wp2_with fail
          go_ret
          exact ⟨by first | rfl | simp, K2.out⟩
end Go.Proofs.YtbangbobfeflcaaGreatDoor
