import Derived.Test.YtonfefhegghapaaDoorTBk
namespace Go.Proofs.YtonfefhegghapaaDoor
open Go.RowKit 

theorem u8_quo16 (y : Nat) : (y : Int) / 16 = ((y / 16 : Nat) : Int) := by omega
theorem u8_rem16 (y : Nat) : (y : Int) % 16 = ((y % 16 : Nat) : Int) := by omega
theorem u8_tdiv16 (y : Nat) : Int.tdiv (y : Int) 16 = ((y / 16 : Nat) : Int) := by
  rw [Int.tdiv_eq_ediv_of_nonneg (by omega)]
  omega
theorem u8_tmod16 (y : Nat) : Int.tmod (y : Int) 16 = ((y % 16 : Nat) : Int) := by
  rw [Int.tmod_eq_emod_of_nonneg (by omega)]
  omega
theorem u8_wrap {x : Nat} (h : x < 256) : IntKind.u8.wrap (x : Int) = (x : Int) := by
  simp [IntKind.wrap, IntKind.bits, IntKind.signed]
  omega
set_option maxRecDepth 100000 in
set_option maxHeartbeats 4000000 in
/-- The document's hex. -/
theorem hRefHex {w : World} {q : Option Addr} {n nc : Nat} {bs : List UInt8} (R : BRd w q n nc bs) (hn : n ≤ 134217728) : Calls Tryd.prog 43 #[.slice q n nc] w fun o w' => o = .returned (.string (ofL (bytW bs))) ∧ Kept (fun _ => False) w w' := by
  by_cases h0 : n = 0
  · subst h0
    have e : bs = [] := List.eq_nil_of_length_eq_zero R.len
    subst e
    have e2 : bytW [] = [45] := rfl
    rw [e2]
    clear R e2
    go_enter Tryd.func43, Tryd.ntmps43
    go_wp2_with fail
    go_ret
    exact ⟨by first | rfl | simp, Kept.refl _ _⟩
  have n1 : ((n : Int) == 0) = false := by rw [beq_eq_false_iff_ne]; omega
  obtain ⟨qb, qo, rfl, hc⟩ := R.cells (by omega)
  have e2 : bytW bs = hexs bs := by
    unfold bytW
    rw [if_neg]
    intro z
    rw [z] at R
    exact h0 R.len.symm
  rw [e2]
  have S0 : Hid (AB w w none 0 0 (hexs (bs.take 0)) (some ⟨qb, qo, none⟩) n nc bs) := ⟨by simpa [hexs] using TX.nil w, R, fun h b hb => ⟨R.lt h b hb, by simp [blockOf]⟩⟩
  have HB : Hid (bs.length = n) := R.len
  clear R hc e2
  go_enter Tryd.func43, Tryd.ntmps43
  go_upto_region 5 with fail
  go_loopw [3, 4] (fun u3 u4 wr => ∃ (i : Nat) (p : Option Addr) (k c : Nat), u3 = .slice p k c ∧ u4 = .int .i64 (i : Int) ∧ i ≤ n ∧ Hid (AB w wr p k c (hexs (bs.take i)) (some ⟨qb, qo, none⟩) n nc bs)) (fun _ u4 _ => n - (intOf u4).toNat)
  case atStart => exact ⟨0, none, 0, 0, rfl, rfl, Nat.zero_le _, S0⟩
  case round =>
    clear S0
    obtain ⟨i, p, k, c, rfl, rfl, hi, S⟩ := hrel
    obtain ⟨wo, hwo⟩ : ∃ wo, wo = wr := ⟨_, rfl⟩
    rw [← hwo] at S ⊢
    clear hwo
    have kl : Hid (k ≤ 268435456) := by
      have h1 := S.out.tx.len
      rw [hexs_len, List.length_take] at h1
      show k ≤ 268435456
      omega
    by_cases hlt : i < n
    · have i1 : (i : Int) < (n : Int) := by omega
      obtain ⟨z, hz⟩ : ∃ z, bs[i]? = some z := ⟨_, List.getElem?_eq_getElem (by rw [HB.out]; exact hlt)⟩
      have ZI : Hid (bs[i]? = some z) := hz
      obtain ⟨y, hy⟩ : ∃ y, z.toNat = y := ⟨_, rfl⟩
      have yl : y < 256 := by rw [← hy]; exact z.toNat_lt
      have CC : Hid (∀ V, AB w V p k c (hexs (bs.take i)) (some ⟨qb, qo, none⟩) n nc bs → V.cell? ⟨qb, qo + i, none⟩ = some (.int .u8 (y : Int))) := fun V h => by
        obtain ⟨b', o', e', hc'⟩ := h.rd.cells (by omega)
        simp at e'
        obtain ⟨rfl, rfl⟩ := e'
        have := hc' i z hz
        rw [hy] at this
        exact this
      have HY : Hid (z.toNat = y) := hy
      clear hz hy
      obtain ⟨hi4, hhi⟩ : ∃ x : Nat, y / 16 = x := ⟨_, rfl⟩
      obtain ⟨lo4, hlo⟩ : ∃ x : Nat, y % 16 = x := ⟨_, rfl⟩
      have hl4 : hi4 < 16 := by omega
      have ll4 : lo4 < 16 := by omega
      have HD : Hid (z.toNat / 16 = hi4 ∧ z.toNat % 16 = lo4) := by rw [HY.out]; exact ⟨hhi, hlo⟩
      have g1 := u8_wrap (show hi4 < 256 by omega)
      have g2 := u8_wrap (show lo4 < 256 by omega)
      have b1 := u8_quo16 y
      have b2 := u8_rem16 y
      have b3 := u8_tdiv16 y
      have b4 := u8_tmod16 y
      rw [hhi] at b1 b3
      rw [hlo] at b2 b4
      have x1 := fun V => hexix hi4 hl4 V
      have x2 := fun V => hexix lo4 ll4 V
      have d1l := hxd_lt hi4 hl4
      have d2l := hxd_lt lo4 ll4
      obtain ⟨d1, hd1⟩ : ∃ x, hxd hi4 = x := ⟨_, rfl⟩
      obtain ⟨d2, hd2⟩ : ∃ x, hxd lo4 = x := ⟨_, rfl⟩
      have HX : Hid (hxd (z.toNat / 16) = d1 ∧ hxd (z.toNat % 16) = d2) := ⟨by rw [HD.out.1]; exact hd1, by rw [HD.out.2]; exact hd2⟩
      rw [hd1] at x1 d1l
      rw [hd2] at x2 d2l
      clear hd1 hd2 hhi hlo HD HY
      have A1 : Hid (AB w (wo.drew.alloc (.cells #[.int .u8 (d1 : Int), .int .u8 (d2 : Int)] 5)) p k c (hexs (bs.take i)) (some ⟨qb, qo, none⟩) n nc bs) := S.out.keep ((Kept.refl (fun _ => False) wo).drew.alloc _)
      have SR : Hid (Src Tryd.prog 1 35 (.slice (some ⟨wo.drew.heap.size, 0, none⟩) 2 2) 2 (Lib.byteCells [UInt8.ofNat d1, UInt8.ofNat d2]) (wo.drew.alloc (.cells #[.int .u8 (d1 : Int), .int .u8 (d2 : Int)] 5))) := src_two wo.drew d1 d2 d1l d2l
      have LN : Hid (k + 2 ≤ maxLen ∧ ((k + 2) + (k + 2) / 4 + 192) * 1 ≤ 281474976710656) := by have := kl.out; unfold maxLen; exact ⟨by omega, by omega⟩
      have c0 : Hid (wo.drew.cell? ⟨qb, qo + i, none⟩ = some (.int .u8 (y : Int))) := CC.out _ (S.out.keep ((Kept.refl (fun _ => False) wo).drew))
      go_upto_region 7 with fail
      refine wp_region_held_drew (S := (fun V => V.cell? ⟨qb, qo + i, none⟩ = some (.int .u8 (y : Int)))) (by kernel_rfl) c0.out (fun hHeld => ?_)
      refine wpAnyH_take (i := 0) (oi := { dst := some 14, op := Go.Op.move (Go.Operand.tmp 3), type := 35, pos := "ref.go:66", after := #[], guard := none }) (v := .slice p k c) rfl (by kernel_rfl) (by kernel_rfl) (by kernel_rfl) (fun _ _ _ h => h) (Or.inl ⟨by rfl, ?_⟩) (by assumption) ?_
      · intro w9 hSw
        (try dsimp only at hSw)
        go_simp
      (try simp only [Act.put, List.setIfInBounds_toArray, List.set_cons_zero, List.set_cons_succ])
      refine wpAnyH_take (i := 1) (oi := { dst := some 15, op := Go.Op.move (Go.Operand.tmp 0), type := 35, pos := "ref.go:66", after := #[], guard := none }) (v := .slice (some ⟨qb, qo, none⟩) n nc) rfl (by kernel_rfl) (by kernel_rfl) (by kernel_rfl) (fun _ _ _ h => h) (Or.inl ⟨by rfl, ?_⟩) (by assumption) ?_
      · intro w9 hSw
        (try dsimp only at hSw)
        go_simp
      (try simp only [Act.put, List.setIfInBounds_toArray, List.set_cons_zero, List.set_cons_succ])
      refine wpAnyH_take (i := 2) (oi := { dst := some 16, op := Go.Op.move (Go.Operand.tmp 4), type := 3, pos := "ref.go:66", after := #[], guard := none }) (v := .int .i64 (i : Int)) rfl (by kernel_rfl) (by kernel_rfl) (by kernel_rfl) (fun _ _ _ h => h) (Or.inl ⟨by rfl, ?_⟩) (by assumption) ?_
      · intro w9 hSw
        (try dsimp only at hSw)
        go_simp
      (try simp only [Act.put, List.setIfInBounds_toArray, List.set_cons_zero, List.set_cons_succ])
      refine wpAnyH_take (i := 3) (oi := { dst := some 17, op := Go.Op.indexAddr 35 (Go.Operand.tmp 15) (Go.Operand.tmp 16), type := 0, pos := "ref.go:66", after := #[{ on := 1, ground := Go.Ground.data }, { on := 2, ground := Go.Ground.data }], guard := none }) (v := .pointer (some ⟨qb, qo + i, none⟩)) rfl (by kernel_rfl) (by kernel_rfl) (by kernel_rfl) (fun _ _ _ h => h) (Or.inl ⟨by rfl, ?_⟩) (by assumption) ?_
      · intro w9 hSw
        (try dsimp only at hSw)
        go_simp
      (try simp only [Act.put, List.setIfInBounds_toArray, List.set_cons_zero, List.set_cons_succ])
      refine wpAnyH_take (i := 4) (oi := { dst := some 18, op := Go.Op.load 5 (Go.Operand.tmp 17), type := 5, pos := "ref.go:66", after := #[{ on := 3, ground := Go.Ground.data }], guard := none }) (v := .int .u8 (y : Int)) rfl (by kernel_rfl) (by kernel_rfl) (by kernel_rfl) (fun _ _ _ h => h) (Or.inl ⟨by rfl, ?_⟩) (by assumption) ?_
      · intro w9 hSw
        (try dsimp only at hSw)
        go_simp
      (try simp only [Act.put, List.setIfInBounds_toArray, List.set_cons_zero, List.set_cons_succ])
      refine wpAnyH_take (i := 5) (oi := { dst := some 19, op := Go.Op.binOp Go.BinOp.quo 5 (Go.Operand.tmp 18) (Go.Operand.const (Go.Value.int Go.IntKind.u8 16)) 5, type := 5, pos := "ref.go:66", after := #[{ on := 4, ground := Go.Ground.data }], guard := none }) (v := .int .u8 (hi4 : Int)) rfl (by kernel_rfl) (by kernel_rfl) (by kernel_rfl) (fun _ _ _ h => h) (Or.inl ⟨by rfl, ?_⟩) (by assumption) ?_
      · intro w9 hSw
        (try dsimp only at hSw)
        go_simp
      (try simp only [Act.put, List.setIfInBounds_toArray, List.set_cons_zero, List.set_cons_succ])
      refine wpAnyH_take (i := 6) (oi := { dst := some 20, op := Go.Op.index 9 (Go.Operand.const (Go.Value.string { data := #[48, 49, 50, 51, 52, 53, 54, 55, 56, 57, 97, 98, 99, 100, 101, 102] })) (Go.Operand.tmp 19), type := 5, pos := "ref.go:66", after := #[{ on := 5, ground := Go.Ground.data }], guard := none }) (v := .int .u8 (d1 : Int)) rfl (by kernel_rfl) (by kernel_rfl) (by kernel_rfl) (fun _ _ _ h => h) (Or.inl ⟨by rfl, ?_⟩) (by assumption) ?_
      · intro w9 hSw
        (try dsimp only at hSw)
        go_simp
      (try simp only [Act.put, List.setIfInBounds_toArray, List.set_cons_zero, List.set_cons_succ])
      refine wpAnyH_take (i := 7) (oi := { dst := some 21, op := Go.Op.move (Go.Operand.tmp 0), type := 35, pos := "ref.go:66", after := #[], guard := none }) (v := .slice (some ⟨qb, qo, none⟩) n nc) rfl (by kernel_rfl) (by kernel_rfl) (by kernel_rfl) (fun _ _ _ h => h) (Or.inl ⟨by rfl, ?_⟩) (by assumption) ?_
      · intro w9 hSw
        (try dsimp only at hSw)
        go_simp
      (try simp only [Act.put, List.setIfInBounds_toArray, List.set_cons_zero, List.set_cons_succ])
      refine wpAnyH_take (i := 8) (oi := { dst := some 22, op := Go.Op.move (Go.Operand.tmp 4), type := 3, pos := "ref.go:66", after := #[], guard := none }) (v := .int .i64 (i : Int)) rfl (by kernel_rfl) (by kernel_rfl) (by kernel_rfl) (fun _ _ _ h => h) (Or.inl ⟨by rfl, ?_⟩) (by assumption) ?_
      · intro w9 hSw
        (try dsimp only at hSw)
        go_simp
      (try simp only [Act.put, List.setIfInBounds_toArray, List.set_cons_zero, List.set_cons_succ])
      refine wpAnyH_take (i := 9) (oi := { dst := some 23, op := Go.Op.indexAddr 35 (Go.Operand.tmp 21) (Go.Operand.tmp 22), type := 0, pos := "ref.go:66", after := #[{ on := 7, ground := Go.Ground.data }, { on := 8, ground := Go.Ground.data }], guard := none }) (v := .pointer (some ⟨qb, qo + i, none⟩)) rfl (by kernel_rfl) (by kernel_rfl) (by kernel_rfl) (fun _ _ _ h => h) (Or.inl ⟨by rfl, ?_⟩) (by assumption) ?_
      · intro w9 hSw
        (try dsimp only at hSw)
        go_simp
      (try simp only [Act.put, List.setIfInBounds_toArray, List.set_cons_zero, List.set_cons_succ])
      refine wpAnyH_take (i := 10) (oi := { dst := some 24, op := Go.Op.load 5 (Go.Operand.tmp 23), type := 5, pos := "ref.go:66", after := #[{ on := 9, ground := Go.Ground.data }], guard := none }) (v := .int .u8 (y : Int)) rfl (by kernel_rfl) (by kernel_rfl) (by kernel_rfl) (fun _ _ _ h => h) (Or.inl ⟨by rfl, ?_⟩) (by assumption) ?_
      · intro w9 hSw
        (try dsimp only at hSw)
        go_simp
      (try simp only [Act.put, List.setIfInBounds_toArray, List.set_cons_zero, List.set_cons_succ])
      refine wpAnyH_take (i := 11) (oi := { dst := some 25, op := Go.Op.binOp Go.BinOp.rem 5 (Go.Operand.tmp 24) (Go.Operand.const (Go.Value.int Go.IntKind.u8 16)) 5, type := 5, pos := "ref.go:66", after := #[{ on := 10, ground := Go.Ground.data }], guard := none }) (v := .int .u8 (lo4 : Int)) rfl (by kernel_rfl) (by kernel_rfl) (by kernel_rfl) (fun _ _ _ h => h) (Or.inl ⟨by rfl, ?_⟩) (by assumption) ?_
      · intro w9 hSw
        (try dsimp only at hSw)
        go_simp
      (try simp only [Act.put, List.setIfInBounds_toArray, List.set_cons_zero, List.set_cons_succ])
      refine wpAnyH_take (i := 12) (oi := { dst := some 26, op := Go.Op.index 9 (Go.Operand.const (Go.Value.string { data := #[48, 49, 50, 51, 52, 53, 54, 55, 56, 57, 97, 98, 99, 100, 101, 102] })) (Go.Operand.tmp 25), type := 5, pos := "ref.go:66", after := #[{ on := 11, ground := Go.Ground.data }], guard := none }) (v := .int .u8 (d2 : Int)) rfl (by kernel_rfl) (by kernel_rfl) (by kernel_rfl) (fun _ _ _ h => h) (Or.inl ⟨by rfl, ?_⟩) (by assumption) ?_
      · intro w9 hSw
        (try dsimp only at hSw)
        go_simp
      (try simp only [Act.put, List.setIfInBounds_toArray, List.set_cons_zero, List.set_cons_succ])
      refine wpAnyH_ready (rs := [13]) (by kernel_rfl) (by simp) ?_
      refine (AllReadyH.cons (o := { dst := some 27, op := Go.Op.buildSlice 35 2 #[(0, Go.Operand.tmp 20), (1, Go.Operand.tmp 26)], type := 35, pos := "ref.go:66", after := #[{ on := 6, ground := Go.Ground.data }, { on := 12, ground := Go.Ground.data }], guard := none }) rfl (fun K hK => ?_) AllReadyH.nil)
      go_simp
      refine hK.out _ _ ?_ (fun hHeld => ?_)
      · exact CC.out _ A1.out
      clear hK K
      (try simp only [Act.put, List.setIfInBounds_toArray, List.set_cons_zero, List.set_cons_succ])
      refine wpAnyH_ready (rs := [14]) (by kernel_rfl) (by simp) ?_
      refine (AllReadyH.cons (o := { dst := some 28, op := Go.Op.call { callee := Go.Callee.builtin Go.Builtin.append, args := #[Go.Operand.tmp 14, Go.Operand.tmp 27], argTypes := #[35, 35] }, type := 35, pos := "ref.go:66", after := #[{ on := 0, ground := Go.Ground.data }, { on := 13, ground := Go.Ground.data }], guard := none }) rfl (fun K hK => ?_) AllReadyH.nil)
      refine step_append_all _ rfl (.tmp 14) (.tmp 27) 35 5 35 _ 1 1 rfl Tryd.underlying35 Tryd.info5 rfl w.heap.size (.slice p k c) k (Lib.byteCells (hexs (bs.take i))) rfl A1.out.tx.row _ 2 (Lib.byteCells [UInt8.ofNat d1, UInt8.ofNat d2]) rfl SR.out LN.out.1 LN.out.2 A1.out.tx.kept.size ?_
      intro p9 c9 w9 ho hg hn9
      have N9 : Hid (AB w w9 p9 (k + 2) c9 (hexs (bs.take (i + 1))) (some ⟨qb, qo, none⟩) n nc bs) := by
        have z9 := A1.out.more (x := [UInt8.ofNat d1, UInt8.ofNat d2]) rfl ho.out hg.out hn9.out
        have e1 : bs.take (i + 1) = bs.take i ++ [z] := by
          rw [List.take_add_one, ZI.out]
          rfl
        have e2 : hexs (bs.take (i + 1)) = hexs (bs.take i) ++ [UInt8.ofNat d1, UInt8.ofNat d2] := by
          rw [e1, hexs_snoc, HX.out.1, HX.out.2]
        show AB w w9 p9 (k + 2) c9 (hexs (bs.take (i + 1))) (some ⟨qb, qo, none⟩) n nc bs
        rw [e2]
        exact z9
      have c9f : Hid (w9.cell? ⟨qb, qo + i, none⟩ = some (.int .u8 (y : Int))) := (TX.kg hg.out).cell (CC.out _ A1.out) (fun z => (A1.out.sep (by omega) qb rfl).2 z)
      refine hK.out _ _ ?_ (fun hHeld => ?_)
      · exact c9f.out
      clear hK K
      (try simp only [Act.put, List.setIfInBounds_toArray, List.set_cons_zero, List.set_cons_succ])
      clear ho hg hn9 A1 SR LN S c9f CC
      refine wpAnyH_take (i := 15) (oi := { dst := some 3, op := Go.Op.assign (Go.Operand.tmp 28), type := 35, pos := "ref.go:66", after := #[{ on := 14, ground := Go.Ground.data }, { on := 14, ground := Go.Ground.chain }, { on := 0, ground := Go.Ground.phase }, { on := 1, ground := Go.Ground.phase }, { on := 2, ground := Go.Ground.phase }, { on := 3, ground := Go.Ground.phase }, { on := 4, ground := Go.Ground.phase }, { on := 5, ground := Go.Ground.phase }, { on := 6, ground := Go.Ground.phase }, { on := 7, ground := Go.Ground.phase }, { on := 8, ground := Go.Ground.phase }, { on := 9, ground := Go.Ground.phase }, { on := 10, ground := Go.Ground.phase }, { on := 11, ground := Go.Ground.phase }, { on := 12, ground := Go.Ground.phase }, { on := 13, ground := Go.Ground.phase }, { on := 14, ground := Go.Ground.phase }], guard := none }) (v := .slice p9 (k + 2) c9) rfl (by kernel_rfl) (by kernel_rfl) (by kernel_rfl) (fun _ _ _ h => h) (Or.inl ⟨by rfl, ?_⟩) (by assumption) ?_
      · intro w9 hSw
        (try dsimp only at hSw)
        go_simp
      (try simp only [Act.put, List.setIfInBounds_toArray])
      refine wpAnyH_done (by kernel_rfl) ?_ _
      go_wp2_with fail
      go_roundw
      case rel => exact ⟨i + 1, p9, k + 2, c9, rfl, by go_num, by omega, N9⟩
      case measure => simp [intOf] <;> omega
    · have i1 : ¬ (i : Int) < (n : Int) := by omega
      have TS := S.out.tx.string
      rw [List.take_of_length_le (by rw [HB.out]; omega)] at TS
      have KS : Hid (Kept (fun _ => False) w wo) := S.out.tx.kept
      clear S
      go_wp2_with fail
      go_ret
      exact ⟨by first | rfl | simp, KS.out⟩
end Go.Proofs.YtonfefhegghapaaDoor
