import Derived.Test.YtonfefhegghapaaDoorANu
namespace Go.Proofs.YtonfefhegghapaaDoor
open Go.RowKit 

/-- The document's digit. -/
def dgB (y : Nat) : Nat := if 97 ≤ y then (y - 97 + 10) % 256 else (y + 208) % 256
theorem dgB_lt (y : Nat) : dgB y < 256 := by unfold dgB; split <;> omega
theorem u8w (x : Int) : IntKind.u8.wrap x = x % 256 := by simp [IntKind.wrap, IntKind.bits, IntKind.signed]
theorem hDigit (y : Nat) (hy : y < 256) (w : World) : Calls Tryd.prog 64 #[.int .u8 (y : Int)] w fun o w' => o = .returned (.int .u8 (dgB y : Int)) ∧ w' = w := by
  obtain ⟨r, hr⟩ : ∃ r : Int, (dgB y : Int) = r := ⟨_, rfl⟩
  rw [hr]
  by_cases h : 97 ≤ y
  · have h1 : (97 : Int) ≤ (y : Int) := by omega
    have e1 : IntKind.u8.wrap ((y : Int) - 97) = (y : Int) - 97 := by rw [u8w]; omega
    have e2 : IntKind.u8.wrap ((y : Int) - 97 + 10) = r := by
      rw [u8w, ← hr]
      unfold dgB
      rw [if_pos h]
      omega
    clear hr
    go_enter Tryd.func64, Tryd.ntmps64
    go_wp2_with fail
    go_ret
    exact ⟨by first | rfl | simp [e1, e2], rfl⟩
  · have h1 : ¬ (97 : Int) ≤ (y : Int) := by omega
    have e2 : IntKind.u8.wrap ((y : Int) - 48) = r := by
      rw [u8w, ← hr]
      unfold dgB
      rw [if_neg h]
      omega
    clear hr
    go_enter Tryd.func64, Tryd.ntmps64
    go_wp2_with fail
    go_ret
    exact ⟨by first | rfl | simp [e2], rfl⟩
/-- Two digits' byte. -/
def twB (a b : UInt8) : Nat := (dgB a.toNat * 16 % 256 + dgB b.toNat) % 256
/-- The document's bytes of digits. -/
def hexR : List UInt8 → List UInt8
  | a :: b :: r => UInt8.ofNat (twB a b) :: hexR r
  | _ => []
theorem hexR_len : ∀ (l : List UInt8), (hexR l).length ≤ l.length
  | [] => by simp [hexR]
  | [_] => by simp [hexR]
  | a :: b :: r => by
    have := hexR_len r
    simp [hexR]
    omega
theorem dg_hxd : ∀ n : Fin 16, dgB (UInt8.ofNat (hxd n.val)).toNat = n.val := by decide +kernel
theorem hexR_back : ∀ l : List UInt8, hexR (hexs l) = l
  | [] => rfl
  | b :: r => by
    have hb : b.toNat < 256 := b.toNat_lt
    rw [hexs_cons]
    show UInt8.ofNat (twB _ _) :: hexR (hexs r) = _
    rw [hexR_back r]
    congr 1
    unfold twB
    rw [dg_hxd ⟨b.toNat / 16, by omega⟩, dg_hxd ⟨b.toNat % 16, by omega⟩]
    apply UInt8.toNat_inj.1
    rw [UInt8.toNat_ofNat']
    dsimp only
    omega
theorem hexR_w (l : List UInt8) : hexR (bytW l) = l := by
  unfold bytW
  split
  · rename_i h
    rw [h]
    rfl
  · exact hexR_back l
/-- What is done of them. -/
theorem hexR_step {l : List UInt8} {i : Nat} {a b : UInt8} (ha : l[i]? = some a) (hb : l[i + 1]? = some b) : hexR (l.drop i) = UInt8.ofNat (twB a b) :: hexR (l.drop (i + 2)) := by
  have h1 := (List.getElem?_eq_some_iff.1 ha)
  have h2 := (List.getElem?_eq_some_iff.1 hb)
  obtain ⟨l1, e1⟩ := h1
  obtain ⟨l2, e2⟩ := h2
  rw [List.drop_eq_getElem_cons l1, e1, List.drop_eq_getElem_cons l2, e2]
  rfl
theorem hexR_end {l : List UInt8} {i : Nat} (h : ¬ i + 1 < l.length) : hexR (l.drop i) = [] := by
  by_cases q : i < l.length
  · have e : l.drop i = [l[i]] := by
      rw [List.drop_eq_getElem_cons q, List.drop_eq_nil_of_le (by omega)]
    rw [e]
    rfl
  · rw [List.drop_eq_nil_of_le (by omega)]
    rfl
set_option maxRecDepth 100000 in
set_option maxHeartbeats 8000000 in
/-- The document's bytes. -/
theorem hRefBytes {w : World} {t : ByteArray} (ht : t.size ≤ 33554432) : Calls Tryd.prog 60 #[.string t] w fun o w' => ∃ (p : Option Addr) (k c : Nat), o = .returned (.slice p k c) ∧ TX w w' p k c (hexR t.data.toList) := by
  go_enter Tryd.func60, Tryd.ntmps60
  go_upto_region 3 with fail
  go_loopw [3, 4] (fun u3 u4 wr => ∃ (i : Nat) (p : Option Addr) (k c : Nat) (l : List UInt8), u3 = .slice p k c ∧ u4 = .int .i64 (i : Int) ∧ i ≤ t.size + 1 ∧ Hid (TX w wr p k c l ∧ l ++ hexR (t.data.toList.drop i) = hexR t.data.toList)) (fun _ u4 _ => t.size + 2 - (intOf u4).toNat)
  case atStart => exact ⟨0, none, 0, 0, [], rfl, rfl, by omega, TX.nil w, rfl⟩
  case round =>
    obtain ⟨i, p, k, c, l, rfl, rfl, hi, S⟩ := hrel
    obtain ⟨wo, hwo⟩ : ∃ wo, wo = wr := ⟨_, rfl⟩
    rw [← hwo] at S ⊢
    clear hwo
    have tl : t.data.toList.length = t.size := Array.length_toList
    have kl : Hid (k ≤ 33554432) := by
      have h1 := S.out.1.len
      have h2 := congrArg List.length S.out.2
      have h3 := hexR_len t.data.toList
      rw [List.length_append] at h2
      show k ≤ 33554432
      omega
    by_cases hlt : i + 1 < t.size
    · have i1 : (i : Int) + 1 < (t.size : Int) := by omega
      have i2 : (i : Int) < (t.size : Int) := by omega
      obtain ⟨x, hx⟩ : ∃ x, t.data.toList[i]? = some x := ⟨_, List.getElem?_eq_getElem (by omega)⟩
      obtain ⟨y, hy⟩ : ∃ x, t.data.toList[i + 1]? = some x := ⟨_, List.getElem?_eq_getElem (by omega)⟩
      have r1 := fun V => run_at hx V
      have r2 := fun V => run_at hy V
      obtain ⟨xn, hxn⟩ : ∃ y, x.toNat = y := ⟨_, rfl⟩
      obtain ⟨yn, hyn⟩ : ∃ z, y.toNat = z := ⟨_, rfl⟩
      have xl : xn < 256 := by rw [← hxn]; exact x.toNat_lt
      have yl : yn < 256 := by rw [← hyn]; exact y.toNat_lt
      rw [hxn] at r1
      rw [hyn] at r2
      have ec : ((i + 1 : Nat) : Int) = (i : Int) + 1 := by omega
      rw [ec] at r2
      have CX : Hid (∀ V, Calls Tryd.prog 64 #[.int .u8 (xn : Int)] V fun o w' => o = .returned (.int .u8 (dgB xn : Int)) ∧ w' = V) := fun V => hDigit xn xl V
      have CY : Hid (∀ V, Calls Tryd.prog 64 #[.int .u8 (yn : Int)] V fun o w' => o = .returned (.int .u8 (dgB yn : Int)) ∧ w' = V) := fun V => hDigit yn yl V
      obtain ⟨dx, hdx⟩ : ∃ d, dgB xn = d := ⟨_, rfl⟩
      obtain ⟨dy, hdy⟩ : ∃ d, dgB yn = d := ⟨_, rfl⟩
      have dxl : dx < 256 := by rw [← hdx]; exact dgB_lt _
      have dyl : dy < 256 := by rw [← hdy]; exact dgB_lt _
      rw [hdx] at CX
      rw [hdy] at CY
      obtain ⟨m, hm⟩ : ∃ m, dx * 16 % 256 = m := ⟨_, rfl⟩
      obtain ⟨b, hb⟩ : ∃ b, (m + dy) % 256 = b := ⟨_, rfl⟩
      have ml : m < 256 := by omega
      have bl : b < 256 := by omega
      have e1 : IntKind.u8.wrap ((dx : Int) * 16) = (m : Int) := by rw [u8w]; omega
      have e2 : IntKind.u8.wrap ((m : Int) + (dy : Int)) = (b : Int) := by rw [u8w]; omega
      have wi : IntKind.i64.wrap ((i : Int) + 1) = (i : Int) + 1 := by rw [IntKind.wrap_i64]; omega
      have HB : Hid (hexR (t.data.toList.drop i) = UInt8.ofNat b :: hexR (t.data.toList.drop (i + 2))) := by
        have q := hexR_step hx hy
        unfold twB at q
        rw [hxn, hyn, hdx, hdy, hm, hb] at q
        exact q
      clear hx hy hxn hyn hdx hdy hm hb ec tl
      have A1 : Hid (TX w (wo.drew.alloc (.cells #[.int .u8 (b : Int)] 5)) p k c l) := S.out.1.k0 ((Kept.refl (fun _ => False) wo).drew.alloc _)
      have SR : Hid (Src Tryd.prog 1 35 (.slice (some ⟨wo.drew.heap.size, 0, none⟩) 1 1) 1 (Lib.byteCells [UInt8.ofNat b]) (wo.drew.alloc (.cells #[.int .u8 (b : Int)] 5))) := src_u8 wo.drew b bl
      have LN : Hid (k + 1 ≤ maxLen ∧ ((k + 1) + (k + 1) / 4 + 192) * 1 ≤ 281474976710656) := by have := kl.out; unfold maxLen; exact ⟨by omega, by omega⟩
      go_upto_region 5 with fail
      refine wp_region_held_drew (S := (fun _ => True)) (by kernel_rfl) trivial (fun hHeld => ?_)
      refine wpAnyH_take (i := 0) (oi := { dst := some 12, op := Go.Op.move (Go.Operand.tmp 3), type := 35, pos := "ref.go:153", after := #[], guard := none }) (v := .slice p k c) rfl (by kernel_rfl) (by kernel_rfl) (by kernel_rfl) (fun _ _ _ h => h) (Or.inl ⟨by rfl, ?_⟩) (by assumption) ?_
      · intro w9 hSw
        (try dsimp only at hSw)
        go_simp
      (try simp only [Act.put, List.setIfInBounds_toArray, List.set_cons_zero, List.set_cons_succ])
      refine wpAnyH_take (i := 1) (oi := { dst := some 13, op := Go.Op.move (Go.Operand.tmp 0), type := 9, pos := "ref.go:153", after := #[], guard := none }) (v := .string t) rfl (by kernel_rfl) (by kernel_rfl) (by kernel_rfl) (fun _ _ _ h => h) (Or.inl ⟨by rfl, ?_⟩) (by assumption) ?_
      · intro w9 hSw
        (try dsimp only at hSw)
        go_simp
      (try simp only [Act.put, List.setIfInBounds_toArray, List.set_cons_zero, List.set_cons_succ])
      refine wpAnyH_take (i := 2) (oi := { dst := some 14, op := Go.Op.move (Go.Operand.tmp 4), type := 3, pos := "ref.go:153", after := #[], guard := none }) (v := .int .i64 (i : Int)) rfl (by kernel_rfl) (by kernel_rfl) (by kernel_rfl) (fun _ _ _ h => h) (Or.inl ⟨by rfl, ?_⟩) (by assumption) ?_
      · intro w9 hSw
        (try dsimp only at hSw)
        go_simp
      (try simp only [Act.put, List.setIfInBounds_toArray, List.set_cons_zero, List.set_cons_succ])
      refine wpAnyH_take (i := 3) (oi := { dst := some 15, op := Go.Op.index 9 (Go.Operand.tmp 13) (Go.Operand.tmp 14), type := 5, pos := "ref.go:153", after := #[{ on := 1, ground := Go.Ground.data }, { on := 2, ground := Go.Ground.data }], guard := none }) (v := .int .u8 (xn : Int)) rfl (by kernel_rfl) (by kernel_rfl) (by kernel_rfl) (fun _ _ _ h => h) (Or.inl ⟨by rfl, ?_⟩) (by assumption) ?_
      · intro w9 hSw
        (try dsimp only at hSw)
        go_simp
      (try simp only [Act.put, List.setIfInBounds_toArray, List.set_cons_zero, List.set_cons_succ])
      refine wpAnyH_take (i := 6) (oi := { dst := some 18, op := Go.Op.move (Go.Operand.tmp 0), type := 9, pos := "ref.go:153", after := #[], guard := none }) (v := .string t) rfl (by kernel_rfl) (by kernel_rfl) (by kernel_rfl) (fun _ _ _ h => h) (Or.inl ⟨by rfl, ?_⟩) (by assumption) ?_
      · intro w9 hSw
        (try dsimp only at hSw)
        go_simp
      (try simp only [Act.put, List.setIfInBounds_toArray, List.set_cons_zero, List.set_cons_succ])
      refine wpAnyH_take (i := 7) (oi := { dst := some 19, op := Go.Op.move (Go.Operand.tmp 4), type := 3, pos := "ref.go:153", after := #[], guard := none }) (v := .int .i64 (i : Int)) rfl (by kernel_rfl) (by kernel_rfl) (by kernel_rfl) (fun _ _ _ h => h) (Or.inl ⟨by rfl, ?_⟩) (by assumption) ?_
      · intro w9 hSw
        (try dsimp only at hSw)
        go_simp
      (try simp only [Act.put, List.setIfInBounds_toArray, List.set_cons_zero, List.set_cons_succ])
      refine wpAnyH_take (i := 8) (oi := { dst := some 20, op := Go.Op.binOp Go.BinOp.add 3 (Go.Operand.tmp 19) (Go.Operand.const (Go.Value.int Go.IntKind.i64 1)) 3, type := 3, pos := "ref.go:153", after := #[{ on := 7, ground := Go.Ground.data }], guard := none }) (v := .int .i64 ((i : Int) + 1)) rfl (by kernel_rfl) (by kernel_rfl) (by kernel_rfl) (fun _ _ _ h => h) (Or.inl ⟨by rfl, ?_⟩) (by assumption) ?_
      · intro w9 hSw
        (try dsimp only at hSw)
        go_simp
      (try simp only [Act.put, List.setIfInBounds_toArray, List.set_cons_zero, List.set_cons_succ])
      refine wpAnyH_take (i := 9) (oi := { dst := some 21, op := Go.Op.index 9 (Go.Operand.tmp 18) (Go.Operand.tmp 20), type := 5, pos := "ref.go:153", after := #[{ on := 6, ground := Go.Ground.data }, { on := 8, ground := Go.Ground.data }], guard := none }) (v := .int .u8 (yn : Int)) rfl (by kernel_rfl) (by kernel_rfl) (by kernel_rfl) (fun _ _ _ h => h) (Or.inl ⟨by rfl, ?_⟩) (by assumption) ?_
      · intro w9 hSw
        (try dsimp only at hSw)
        go_simp
      (try simp only [Act.put, List.setIfInBounds_toArray, List.set_cons_zero, List.set_cons_succ])
      refine wpAnyH_ready (rs := [4]) (by kernel_rfl) (by simp) ?_
      refine (AllReadyH.cons (o := { dst := some 16, op := Go.Op.call { callee := Go.Callee.value (Go.Operand.func 64), args := #[Go.Operand.tmp 15], argTypes := #[5] }, type := 5, pos := "ref.go:153", after := #[{ on := 3, ground := Go.Ground.data }], guard := none }) rfl (fun K hK => ?_) AllReadyH.nil)
      go_simp
      refine (CX.out _).mono ?_
      rintro o w5 ⟨rfl, hw⟩
      subst hw
      refine hK.out _ _ ?_ (fun hHeld => ?_)
      · exact trivial
      clear hK K
      (try simp only [Act.put, List.setIfInBounds_toArray, List.set_cons_zero, List.set_cons_succ])
      refine wpAnyH_take (i := 5) (oi := { dst := some 17, op := Go.Op.binOp Go.BinOp.mul 5 (Go.Operand.tmp 16) (Go.Operand.const (Go.Value.int Go.IntKind.u8 16)) 5, type := 5, pos := "ref.go:153", after := #[{ on := 4, ground := Go.Ground.data }], guard := none }) (v := .int .u8 (m : Int)) rfl (by kernel_rfl) (by kernel_rfl) (by kernel_rfl) (fun _ _ _ h => h) (Or.inl ⟨by rfl, ?_⟩) (by assumption) ?_
      · intro w9 hSw
        (try dsimp only at hSw)
        go_simp
      (try simp only [Act.put, List.setIfInBounds_toArray, List.set_cons_zero, List.set_cons_succ])
      refine wpAnyH_ready (rs := [10]) (by kernel_rfl) (by simp) ?_
      refine (AllReadyH.cons (o := { dst := some 22, op := Go.Op.call { callee := Go.Callee.value (Go.Operand.func 64), args := #[Go.Operand.tmp 21], argTypes := #[5] }, type := 5, pos := "ref.go:153", after := #[{ on := 9, ground := Go.Ground.data }, { on := 4, ground := Go.Ground.chain }], guard := none }) rfl (fun K hK => ?_) AllReadyH.nil)
      go_simp
      refine (CY.out _).mono ?_
      rintro o w6 ⟨rfl, hw⟩
      subst hw
      refine hK.out _ _ ?_ (fun hHeld => ?_)
      · exact trivial
      clear hK K
      (try simp only [Act.put, List.setIfInBounds_toArray, List.set_cons_zero, List.set_cons_succ])
      refine wpAnyH_take (i := 11) (oi := { dst := some 23, op := Go.Op.binOp Go.BinOp.add 5 (Go.Operand.tmp 17) (Go.Operand.tmp 22) 5, type := 5, pos := "ref.go:153", after := #[{ on := 5, ground := Go.Ground.data }, { on := 10, ground := Go.Ground.data }], guard := none }) (v := .int .u8 (b : Int)) rfl (by kernel_rfl) (by kernel_rfl) (by kernel_rfl) (fun _ _ _ h => h) (Or.inl ⟨by rfl, ?_⟩) (by assumption) ?_
      · intro w9 hSw
        (try dsimp only at hSw)
        go_simp
      (try simp only [Act.put, List.setIfInBounds_toArray, List.set_cons_zero, List.set_cons_succ])
      refine wpAnyH_ready (rs := [12]) (by kernel_rfl) (by simp) ?_
      refine (AllReadyH.cons (o := { dst := some 24, op := Go.Op.buildSlice 35 1 #[(0, Go.Operand.tmp 23)], type := 35, pos := "ref.go:153", after := #[{ on := 11, ground := Go.Ground.data }], guard := none }) rfl (fun K hK => ?_) AllReadyH.nil)
      go_simp
      refine hK.out _ _ ?_ (fun hHeld => ?_)
      · exact trivial
      clear hK K
      (try simp only [Act.put, List.setIfInBounds_toArray, List.set_cons_zero, List.set_cons_succ])
      refine wpAnyH_ready (rs := [13]) (by kernel_rfl) (by simp) ?_
      refine (AllReadyH.cons (o := { dst := some 25, op := Go.Op.call { callee := Go.Callee.builtin Go.Builtin.append, args := #[Go.Operand.tmp 12, Go.Operand.tmp 24], argTypes := #[35, 35] }, type := 35, pos := "ref.go:153", after := #[{ on := 0, ground := Go.Ground.data }, { on := 12, ground := Go.Ground.data }, { on := 10, ground := Go.Ground.chain }], guard := none }) rfl (fun K hK => ?_) AllReadyH.nil)
      refine step_append_all _ rfl (.tmp 12) (.tmp 24) 35 5 35 _ 1 1 rfl Tryd.underlying35 Tryd.info5 rfl w.heap.size (.slice p k c) k (Lib.byteCells l) rfl A1.out.row _ 1 (Lib.byteCells [UInt8.ofNat b]) rfl SR.out LN.out.1 LN.out.2 A1.out.kept.size ?_
      intro p9 c9 w9 ho hg hn9
      have N9 : Hid (TX w w9 p9 (k + 1) c9 (l ++ [UInt8.ofNat b]) ∧ (l ++ [UInt8.ofNat b]) ++ hexR (t.data.toList.drop (i + 2)) = hexR t.data.toList) := ⟨A1.out.more (x := [UInt8.ofNat b]) rfl ho.out hg.out, by rw [← S.out.2, HB.out, List.append_assoc]; rfl⟩
      refine hK.out _ _ ?_ (fun hHeld => ?_)
      · exact trivial
      clear hK K
      (try simp only [Act.put, List.setIfInBounds_toArray, List.set_cons_zero, List.set_cons_succ])
      clear ho hg hn9 A1 SR LN S
      refine wpAnyH_take (i := 14) (oi := { dst := some 3, op := Go.Op.assign (Go.Operand.tmp 25), type := 35, pos := "ref.go:153", after := #[{ on := 13, ground := Go.Ground.data }, { on := 13, ground := Go.Ground.chain }, { on := 0, ground := Go.Ground.phase }, { on := 1, ground := Go.Ground.phase }, { on := 2, ground := Go.Ground.phase }, { on := 3, ground := Go.Ground.phase }, { on := 4, ground := Go.Ground.phase }, { on := 5, ground := Go.Ground.phase }, { on := 6, ground := Go.Ground.phase }, { on := 7, ground := Go.Ground.phase }, { on := 8, ground := Go.Ground.phase }, { on := 9, ground := Go.Ground.phase }, { on := 10, ground := Go.Ground.phase }, { on := 11, ground := Go.Ground.phase }, { on := 12, ground := Go.Ground.phase }, { on := 13, ground := Go.Ground.phase }], guard := none }) (v := .slice p9 (k + 1) c9) rfl (by kernel_rfl) (by kernel_rfl) (by kernel_rfl) (fun _ _ _ h => h) (Or.inl ⟨by rfl, ?_⟩) (by assumption) ?_
      · intro w9 hSw
        (try dsimp only at hSw)
        go_simp
      (try simp only [Act.put, List.setIfInBounds_toArray])
      refine wpAnyH_done (by kernel_rfl) ?_ _
      go_wp2_with fail
      go_roundw
      case rel => exact ⟨i + 2, p9, k + 1, c9, _, rfl, by go_num, by omega, N9⟩
      case measure => simp [intOf] <;> omega
    · have i1 : ¬ (i : Int) + 1 < (t.size : Int) := by omega
      have wi : IntKind.i64.wrap ((i : Int) + 1) = (i : Int) + 1 := by rw [IntKind.wrap_i64]; omega
      have FN : Hid (TX w wo p k c (hexR t.data.toList)) := by
        have q := S.out.2
        rw [hexR_end (by omega), List.append_nil] at q
        rw [← q]
        exact S.out.1
      clear S tl
      go_wp2_with fail
      go_ret
      exact ⟨p, k, c, by first | rfl | simp, FN.out⟩
end Go.Proofs.YtonfefhegghapaaDoor
