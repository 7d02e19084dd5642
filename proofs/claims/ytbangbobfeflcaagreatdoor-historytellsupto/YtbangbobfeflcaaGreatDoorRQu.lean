import Derived.Test.YtbangbobfeflcaaGreatDoorRDg
import Derived.Deep.RegionHeldLaw
namespace Go.Proofs.YtbangbobfeflcaaGreatDoor
open Go.RowKit 

theorem own_one {w : World} {v : Value} : (w.alloc (.cells #[v] 5)).ownsRow w.heap.size 5 1 (.slice (some ⟨w.heap.size, 0, none⟩) 1 1) 1 [v] := ⟨rfl, .inr ⟨w.heap.size, 1, #[v], rfl, Nat.le_refl _, alloc_new _ _, Nat.le_refl _, by unfold maxLen; decide, rfl, rfl⟩⟩
theorem plain_no {x : Nat} (h : plainB (x : Int) = false) : x < 32 ∨ 126 < x ∨ x = 34 ∨ x = 92 := by
  unfold plainB at h
  simp at h
  omega
theorem plain_yes {x : Nat} (h : plainB (x : Int) = true) : 32 ≤ x ∧ x ≤ 126 ∧ x ≠ 34 ∧ x ≠ 92 := by
  unfold plainB at h
  simp at h
  omega
set_option maxRecDepth 100000 in
set_option maxHeartbeats 4000000 in
theorem hRQuoted (t : ByteArray) (w : World) (ht : t.size ≤ 65536) : Calls Tryz.prog 75 #[.string t] w fun o w' => o = .returned (.string (str (quoN (bl t)))) ∧ Kept (fun _ => False) w w' := by
  obtain ⟨n, hn⟩ : ∃ n, t.size = n := ⟨_, rfl⟩
  obtain ⟨l, hl⟩ : ∃ l, bl t = l := ⟨_, rfl⟩
  rw [hl]
  have HL : Hid (bl t = l ∧ l.length = n ∧ ∀ c ∈ l, c < 256) := ⟨hl, by rw [← hl, bl_len, hn], by rw [← hl]; exact bl_lt t⟩
  have nb : n ≤ 65536 := by omega
  have tn : (t.size : Int) = (n : Int) := by rw [hn]
  have S0 : Hid (QS w (34 :: escL (l.take 0)) (some ⟨w.heap.size, 0, none⟩) 1 1 (w.alloc (.cells #[.int .u8 34] 5))) := ⟨own_one, (Kept.refl _ _).alloc _⟩
  clear hl ht hn
  go_enter Tryz.func75, Tryz.ntmps75
  go_wp2_with fail
  go_loopw [4, 5, 6] (fun u4 u5 _ wr => ∃ (i : Nat) (p : Option Addr) (k c : Nat), u4 = .slice p k c ∧ u5 = .int .i64 (i : Int) ∧ i ≤ n ∧ k ≤ 4 * i + 1 ∧ Hid (QS w (34 :: escL (l.take i)) p k c wr)) (fun _ u5 _ _ => n - (intOf u5).toNat)
  case atStart => exact ⟨0, _, 1, 1, rfl, rfl, Nat.zero_le _, by omega, S0⟩
  case round =>
    clear S0
    obtain ⟨i, p, k, c, rfl, rfl, hi, kb, S⟩ := hrel
    obtain ⟨wo, hwo⟩ : ∃ wo, wo = wr := ⟨_, rfl⟩
    rw [← hwo] at S ⊢
    clear hwo
    by_cases hlt : i < n
    · have lti : (i : Int) < (n : Int) := by omega
      obtain ⟨x, hx⟩ : ∃ x, l[i]? = some x := ⟨_, List.getElem?_eq_getElem (by rw [HL.out.2.1]; exact hlt)⟩
      have xl : x < 256 := HL.out.2.2 x (List.mem_of_getElem? hx)
      have TK : Hid (l.take (i + 1) = l.take i ++ [x]) := by
        show l.take (i + 1) = _
        rw [List.take_add_one, hx]
        rfl
      have ix := fun V => run_at (t := t) (j := i) (x := x) (by rw [HL.out.1]; exact hx) V
      clear hx
      cases hpl : plainB (x : Int) with
      | true =>
        obtain ⟨y1, y2, y3, y4⟩ := plain_yes hpl
        have PL : Hid (plainB (x : Int) = true) := hpl
        have g1 : ¬ (x : Int) < 32 := by omega
        have g2 : ¬ (126 : Int) < (x : Int) := by omega
        have g2' : ¬ (x : Int) > 126 := by omega
        have g3 : ((x : Int) == 34) = false := by
          rw [beq_eq_false_iff_ne]
          omega
        have g4 : ((x : Int) == 92) = false := by
          rw [beq_eq_false_iff_ne]
          omega
        obtain ⟨V, hV⟩ : ∃ V, wo.alloc (.cells #[.int .u8 (x : Int)] 5) = V := ⟨_, rfl⟩
        have A1 : Hid (QS w (34 :: escL (l.take i)) p k c V) := by rw [← hV]; exact S.out.on ((Kept.refl _ _).alloc _)
        have SR : Hid (Src Tryz.prog 1 34 (.slice (some ⟨wo.heap.size, 0, none⟩) 1 1) 1 (cellsOf [x]) V) := by rw [← hV]; exact src_row (alloc_new _ _) rfl rfl
        have EV : Hid (wo.alloc (.cells #[.int .u8 (x : Int)] 5) = V) := hV
        clear hV hpl S y1 y2 y3 y4
        go_upto_region 9 with fail
        go_upto_region 5 with
          (first
            | (at_builtin; rw [EV.out]; refine wpList_append_bytes _ rfl (.tmp 42) (.tmp 44) rfl w.heap.size (.slice p k c) k (34 :: escL (l.take i)) rfl A1.out.row _ 1 [x] rfl SR.out (by omega) A1.out.kept.size ?_; intro p9 c9 w9 ho hg hn9)
            | fail)
        have N9 : Hid (QS w ((34 :: escL (l.take i)) ++ [x]) p9 (k + 1) c9 w9) := ⟨ho.out, A1.out.grow hg.out⟩
        clear ho hg hn9
        have M9 : Hid (QS w (34 :: escL (l.take (i + 1))) p9 (k + 1) c9 w9) := by
          have e : 34 :: escL (l.take (i + 1)) = (34 :: escL (l.take i)) ++ [x] := by
            rw [TK.out, escL_snoc]
            unfold escN
            rw [if_pos PL.out]
            rfl
          show QS w (34 :: escL (l.take (i + 1))) p9 (k + 1) c9 w9
          rw [e]
          exact N9.out
        clear A1 SR EV N9
        go_wp2_with fail
        go_roundw
        case rel => exact ⟨i + 1, p9, k + 1, c9, rfl, by go_num, by omega, by omega, M9⟩
        case measure => simp [intOf] <;> omega
      | false =>
        have PL : Hid (plainB (x : Int) = false) := hpl
        have no := plain_no hpl
        obtain ⟨h4, hh4⟩ : ∃ h4 : Nat, x / 16 = h4 := ⟨_, rfl⟩
        obtain ⟨l4, hl4⟩ : ∃ l4 : Nat, x % 16 = l4 := ⟨_, rfl⟩
        obtain ⟨d1, hd1⟩ : ∃ d1, hxd h4 = d1 := ⟨_, rfl⟩
        obtain ⟨d2, hd2⟩ : ∃ d2, hxd l4 = d2 := ⟨_, rfl⟩
        have x1 := fun V => hexix h4 (by omega) V
        have x2 := fun V => hexix l4 (by omega) V
        have HH : Hid (hxd (x / 16) = d1 ∧ hxd (x % 16) = d2) := by rw [hh4, hl4]; exact ⟨hd1, hd2⟩
        rw [hd1] at x1
        rw [hd2] at x2
        have b1 : (x : Int) / 16 = (h4 : Int) := by omega
        have b1' : (x : Int).tdiv 16 = (h4 : Int) := by rw [Int.tdiv_eq_ediv_of_nonneg (by omega)]; omega
        have b2 : (x : Int) % 16 = (l4 : Int) := by omega
        have b2' : (x : Int).tmod 16 = (l4 : Int) := by rw [Int.tmod_eq_emod_of_nonneg (by omega)]; omega
        have b3 : IntKind.u8.wrap (h4 : Int) = (h4 : Int) := by rw [IntKind.wrap_u8]; omega
        have b4 : IntKind.u8.wrap (l4 : Int) = (l4 : Int) := by rw [IntKind.wrap_u8]; omega
        have A4 : Hid (QS w (34 :: escL (l.take i)) p k c (wo.drew.alloc (.cells #[.int .u8 92, .int .u8 120, .int .u8 (d1 : Int), .int .u8 (d2 : Int)] 5))) := S.out.on ((Kept.refl _ _).drew.alloc _)
        have SR4 : Hid (Src Tryz.prog 1 34 (.slice (some ⟨wo.heap.size, 0, none⟩) 4 4) 4 (cellsOf [92, 120, d1, d2]) (wo.drew.alloc (.cells #[.int .u8 92, .int .u8 120, .int .u8 (d1 : Int), .int .u8 (d2 : Int)] 5))) := src_row (alloc_new wo.drew _) rfl rfl
        have LN4 : Hid (k + 4 ≤ maxLen ∧ ((k + 4) + (k + 4) / 4 + 192) * 1 ≤ 281474976710656) := by unfold maxLen; exact ⟨by omega, by omega⟩
        clear hh4 hl4 hd1 hd2 S hpl
        by_cases n1 : x < 32
        · have g1 : (x : Int) < 32 := by omega
          clear no n1
          go_upto_region 8 with fail
          refine wp_region_held_drew (S := (fun _ => True)) (by kernel_rfl) trivial (fun hHeld => ?_)
          refine wpAnyH_take (i := 0) (oi := { dst := some 31, op := Go.Op.move (Go.Operand.tmp 4), type := 34, pos := "ref.go:209", after := #[], guard := none }) (v := .slice p k c) rfl (by kernel_rfl) (by kernel_rfl) (by kernel_rfl) (fun _ _ _ h => h) (Or.inl ⟨by rfl, ?_⟩) (by assumption) ?_
          · intro w9 hSw
            (try dsimp only at hSw)
            go_simp
          (try simp only [Act.put, List.setIfInBounds_toArray, List.set_cons_zero, List.set_cons_succ])
          refine wpAnyH_take (i := 1) (oi := { dst := some 32, op := Go.Op.move (Go.Operand.tmp 3), type := 9, pos := "ref.go:209", after := #[], guard := none }) (v := .string ⟨#[48, 49, 50, 51, 52, 53, 54, 55, 56, 57, 97, 98, 99, 100, 101, 102]⟩) rfl (by kernel_rfl) (by kernel_rfl) (by kernel_rfl) (fun _ _ _ h => h) (Or.inl ⟨by rfl, ?_⟩) (by assumption) ?_
          · intro w9 hSw
            (try dsimp only at hSw)
            go_simp
          (try simp only [Act.put, List.setIfInBounds_toArray, List.set_cons_zero, List.set_cons_succ])
          refine wpAnyH_take (i := 2) (oi := { dst := some 33, op := Go.Op.move (Go.Operand.tmp 6), type := 5, pos := "ref.go:209", after := #[], guard := none }) (v := .int .u8 (x : Int)) rfl (by kernel_rfl) (by kernel_rfl) (by kernel_rfl) (fun _ _ _ h => h) (Or.inl ⟨by rfl, ?_⟩) (by assumption) ?_
          · intro w9 hSw
            (try dsimp only at hSw)
            go_simp
          (try simp only [Act.put, List.setIfInBounds_toArray, List.set_cons_zero, List.set_cons_succ])
          refine wpAnyH_take (i := 3) (oi := { dst := some 34, op := Go.Op.binOp Go.BinOp.quo 5 (Go.Operand.tmp 33) (Go.Operand.const (Go.Value.int Go.IntKind.u8 16)) 5, type := 5, pos := "ref.go:209", after := #[{ on := 2, ground := Go.Ground.data }], guard := none }) (v := .int .u8 (h4 : Int)) rfl (by kernel_rfl) (by kernel_rfl) (by kernel_rfl) (fun _ _ _ h => h) (Or.inl ⟨by rfl, ?_⟩) (by assumption) ?_
          · intro w9 hSw
            (try dsimp only at hSw)
            go_simp
          (try simp only [Act.put, List.setIfInBounds_toArray, List.set_cons_zero, List.set_cons_succ])
          refine wpAnyH_take (i := 4) (oi := { dst := some 35, op := Go.Op.index 9 (Go.Operand.tmp 32) (Go.Operand.tmp 34), type := 5, pos := "ref.go:209", after := #[{ on := 1, ground := Go.Ground.data }, { on := 3, ground := Go.Ground.data }], guard := none }) (v := .int .u8 (d1 : Int)) rfl (by kernel_rfl) (by kernel_rfl) (by kernel_rfl) (fun _ _ _ h => h) (Or.inl ⟨by rfl, ?_⟩) (by assumption) ?_
          · intro w9 hSw
            (try dsimp only at hSw)
            go_simp
          (try simp only [Act.put, List.setIfInBounds_toArray, List.set_cons_zero, List.set_cons_succ])
          refine wpAnyH_take (i := 5) (oi := { dst := some 36, op := Go.Op.move (Go.Operand.tmp 3), type := 9, pos := "ref.go:209", after := #[], guard := none }) (v := .string ⟨#[48, 49, 50, 51, 52, 53, 54, 55, 56, 57, 97, 98, 99, 100, 101, 102]⟩) rfl (by kernel_rfl) (by kernel_rfl) (by kernel_rfl) (fun _ _ _ h => h) (Or.inl ⟨by rfl, ?_⟩) (by assumption) ?_
          · intro w9 hSw
            (try dsimp only at hSw)
            go_simp
          (try simp only [Act.put, List.setIfInBounds_toArray, List.set_cons_zero, List.set_cons_succ])
          refine wpAnyH_take (i := 6) (oi := { dst := some 37, op := Go.Op.move (Go.Operand.tmp 6), type := 5, pos := "ref.go:209", after := #[], guard := none }) (v := .int .u8 (x : Int)) rfl (by kernel_rfl) (by kernel_rfl) (by kernel_rfl) (fun _ _ _ h => h) (Or.inl ⟨by rfl, ?_⟩) (by assumption) ?_
          · intro w9 hSw
            (try dsimp only at hSw)
            go_simp
          (try simp only [Act.put, List.setIfInBounds_toArray, List.set_cons_zero, List.set_cons_succ])
          refine wpAnyH_take (i := 7) (oi := { dst := some 38, op := Go.Op.binOp Go.BinOp.rem 5 (Go.Operand.tmp 37) (Go.Operand.const (Go.Value.int Go.IntKind.u8 16)) 5, type := 5, pos := "ref.go:209", after := #[{ on := 6, ground := Go.Ground.data }], guard := none }) (v := .int .u8 (l4 : Int)) rfl (by kernel_rfl) (by kernel_rfl) (by kernel_rfl) (fun _ _ _ h => h) (Or.inl ⟨by rfl, ?_⟩) (by assumption) ?_
          · intro w9 hSw
            (try dsimp only at hSw)
            go_simp
          (try simp only [Act.put, List.setIfInBounds_toArray, List.set_cons_zero, List.set_cons_succ])
          refine wpAnyH_take (i := 8) (oi := { dst := some 39, op := Go.Op.index 9 (Go.Operand.tmp 36) (Go.Operand.tmp 38), type := 5, pos := "ref.go:209", after := #[{ on := 5, ground := Go.Ground.data }, { on := 7, ground := Go.Ground.data }], guard := none }) (v := .int .u8 (d2 : Int)) rfl (by kernel_rfl) (by kernel_rfl) (by kernel_rfl) (fun _ _ _ h => h) (Or.inl ⟨by rfl, ?_⟩) (by assumption) ?_
          · intro w9 hSw
            (try dsimp only at hSw)
            go_simp
          (try simp only [Act.put, List.setIfInBounds_toArray, List.set_cons_zero, List.set_cons_succ])
          refine wpAnyH_ready (rs := [9]) (by kernel_rfl) (by simp) ?_
          refine (AllReadyH.cons (o := { dst := some 40, op := Go.Op.buildSlice 34 4 #[(0, Go.Operand.const (Go.Value.int Go.IntKind.u8 92)), (1, Go.Operand.const (Go.Value.int Go.IntKind.u8 120)), (2, Go.Operand.tmp 35), (3, Go.Operand.tmp 39)], type := 34, pos := "ref.go:209", after := #[{ on := 4, ground := Go.Ground.data }, { on := 8, ground := Go.Ground.data }], guard := none }) rfl (fun K hK => ?_) AllReadyH.nil)
          go_simp
          refine hK.out _ _ ?_ (fun hHeld => ?_)
          · exact trivial
          clear hK K
          (try simp only [Act.put, List.setIfInBounds_toArray, List.set_cons_zero, List.set_cons_succ])
          refine wpAnyH_ready (rs := [10]) (by kernel_rfl) (by simp) ?_
          refine (AllReadyH.cons (o := { dst := some 41, op := Go.Op.call { callee := Go.Callee.builtin Go.Builtin.append, args := #[Go.Operand.tmp 31, Go.Operand.tmp 40], argTypes := #[34, 34] }, type := 34, pos := "ref.go:209", after := #[{ on := 0, ground := Go.Ground.data }, { on := 9, ground := Go.Ground.data }], guard := none }) rfl (fun K hK => ?_) AllReadyH.nil)
          refine step_append_all _ rfl (.tmp 31) (.tmp 40) 34 5 34 _ 1 1 rfl Tryz.underlying34 Tryz.info5 rfl w.heap.size (.slice p k c) k (cellsOf (34 :: escL (l.take i))) rfl A4.out.row _ 4 (cellsOf [92, 120, d1, d2]) rfl SR4.out LN4.out.1 LN4.out.2 A4.out.kept.size ?_
          intro p9 c9 w9 ho hg hn9
          have N9 : Hid (QS w (34 :: escL (l.take (i + 1))) p9 (k + 4) c9 w9) := by
            have q := A4.out.more (k := [92, 120, d1, d2]) ho.out hg.out
            have e : 34 :: escL (l.take (i + 1)) = (34 :: escL (l.take i)) ++ [92, 120, d1, d2] := by
              rw [TK.out, escL_snoc]
              unfold escN
              rw [if_neg (by rw [PL.out]; decide), HH.out.1, HH.out.2]
              rfl
            show QS w (34 :: escL (l.take (i + 1))) p9 (k + 4) c9 w9
            rw [e]
            exact q
          refine hK.out _ _ ?_ (fun hHeld => ?_)
          · exact trivial
          clear hK K
          (try simp only [Act.put, List.setIfInBounds_toArray, List.set_cons_zero, List.set_cons_succ])
          clear ho hg hn9 A4 SR4 LN4
          refine wpAnyH_take (i := 11) (oi := { dst := some 4, op := Go.Op.assign (Go.Operand.tmp 41), type := 34, pos := "ref.go:209", after := #[{ on := 10, ground := Go.Ground.data }, { on := 10, ground := Go.Ground.chain }, { on := 0, ground := Go.Ground.phase }, { on := 1, ground := Go.Ground.phase }, { on := 2, ground := Go.Ground.phase }, { on := 3, ground := Go.Ground.phase }, { on := 4, ground := Go.Ground.phase }, { on := 5, ground := Go.Ground.phase }, { on := 6, ground := Go.Ground.phase }, { on := 7, ground := Go.Ground.phase }, { on := 8, ground := Go.Ground.phase }, { on := 9, ground := Go.Ground.phase }, { on := 10, ground := Go.Ground.phase }], guard := none }) (v := .slice p9 (k + 4) c9) rfl (by kernel_rfl) (by kernel_rfl) (by kernel_rfl) (fun _ _ _ h => h) (Or.inl ⟨by rfl, ?_⟩) (by assumption) ?_
          · intro w9 hSw
            (try dsimp only at hSw)
            go_simp
          (try simp only [Act.put, List.setIfInBounds_toArray, List.set_cons_zero, List.set_cons_succ])
          refine wpAnyH_done (by kernel_rfl) ?_ _
          clear hHeld
          go_wp2_with fail
          go_roundw
          case rel => exact ⟨i + 1, p9, k + 4, c9, rfl, by go_num, by omega, by omega, N9⟩
          case measure => simp [intOf] <;> omega
        · by_cases n2 : 126 < x
          · have g1 : ¬ (x : Int) < 32 := by omega
            have g2 : (126 : Int) < (x : Int) := by omega
            have g2' : (x : Int) > 126 := by omega
            clear no n1 n2
            go_upto_region 8 with fail
            refine wp_region_held_drew (S := (fun _ => True)) (by kernel_rfl) trivial (fun hHeld => ?_)
            refine wpAnyH_take (i := 0) (oi := { dst := some 31, op := Go.Op.move (Go.Operand.tmp 4), type := 34, pos := "ref.go:209", after := #[], guard := none }) (v := .slice p k c) rfl (by kernel_rfl) (by kernel_rfl) (by kernel_rfl) (fun _ _ _ h => h) (Or.inl ⟨by rfl, ?_⟩) (by assumption) ?_
            · intro w9 hSw
              (try dsimp only at hSw)
              go_simp
            (try simp only [Act.put, List.setIfInBounds_toArray, List.set_cons_zero, List.set_cons_succ])
            refine wpAnyH_take (i := 1) (oi := { dst := some 32, op := Go.Op.move (Go.Operand.tmp 3), type := 9, pos := "ref.go:209", after := #[], guard := none }) (v := .string ⟨#[48, 49, 50, 51, 52, 53, 54, 55, 56, 57, 97, 98, 99, 100, 101, 102]⟩) rfl (by kernel_rfl) (by kernel_rfl) (by kernel_rfl) (fun _ _ _ h => h) (Or.inl ⟨by rfl, ?_⟩) (by assumption) ?_
            · intro w9 hSw
              (try dsimp only at hSw)
              go_simp
            (try simp only [Act.put, List.setIfInBounds_toArray, List.set_cons_zero, List.set_cons_succ])
            refine wpAnyH_take (i := 2) (oi := { dst := some 33, op := Go.Op.move (Go.Operand.tmp 6), type := 5, pos := "ref.go:209", after := #[], guard := none }) (v := .int .u8 (x : Int)) rfl (by kernel_rfl) (by kernel_rfl) (by kernel_rfl) (fun _ _ _ h => h) (Or.inl ⟨by rfl, ?_⟩) (by assumption) ?_
            · intro w9 hSw
              (try dsimp only at hSw)
              go_simp
            (try simp only [Act.put, List.setIfInBounds_toArray, List.set_cons_zero, List.set_cons_succ])
            refine wpAnyH_take (i := 3) (oi := { dst := some 34, op := Go.Op.binOp Go.BinOp.quo 5 (Go.Operand.tmp 33) (Go.Operand.const (Go.Value.int Go.IntKind.u8 16)) 5, type := 5, pos := "ref.go:209", after := #[{ on := 2, ground := Go.Ground.data }], guard := none }) (v := .int .u8 (h4 : Int)) rfl (by kernel_rfl) (by kernel_rfl) (by kernel_rfl) (fun _ _ _ h => h) (Or.inl ⟨by rfl, ?_⟩) (by assumption) ?_
            · intro w9 hSw
              (try dsimp only at hSw)
              go_simp
            (try simp only [Act.put, List.setIfInBounds_toArray, List.set_cons_zero, List.set_cons_succ])
            refine wpAnyH_take (i := 4) (oi := { dst := some 35, op := Go.Op.index 9 (Go.Operand.tmp 32) (Go.Operand.tmp 34), type := 5, pos := "ref.go:209", after := #[{ on := 1, ground := Go.Ground.data }, { on := 3, ground := Go.Ground.data }], guard := none }) (v := .int .u8 (d1 : Int)) rfl (by kernel_rfl) (by kernel_rfl) (by kernel_rfl) (fun _ _ _ h => h) (Or.inl ⟨by rfl, ?_⟩) (by assumption) ?_
            · intro w9 hSw
              (try dsimp only at hSw)
              go_simp
            (try simp only [Act.put, List.setIfInBounds_toArray, List.set_cons_zero, List.set_cons_succ])
            refine wpAnyH_take (i := 5) (oi := { dst := some 36, op := Go.Op.move (Go.Operand.tmp 3), type := 9, pos := "ref.go:209", after := #[], guard := none }) (v := .string ⟨#[48, 49, 50, 51, 52, 53, 54, 55, 56, 57, 97, 98, 99, 100, 101, 102]⟩) rfl (by kernel_rfl) (by kernel_rfl) (by kernel_rfl) (fun _ _ _ h => h) (Or.inl ⟨by rfl, ?_⟩) (by assumption) ?_
            · intro w9 hSw
              (try dsimp only at hSw)
              go_simp
            (try simp only [Act.put, List.setIfInBounds_toArray, List.set_cons_zero, List.set_cons_succ])
            refine wpAnyH_take (i := 6) (oi := { dst := some 37, op := Go.Op.move (Go.Operand.tmp 6), type := 5, pos := "ref.go:209", after := #[], guard := none }) (v := .int .u8 (x : Int)) rfl (by kernel_rfl) (by kernel_rfl) (by kernel_rfl) (fun _ _ _ h => h) (Or.inl ⟨by rfl, ?_⟩) (by assumption) ?_
            · intro w9 hSw
              (try dsimp only at hSw)
              go_simp
            (try simp only [Act.put, List.setIfInBounds_toArray, List.set_cons_zero, List.set_cons_succ])
            refine wpAnyH_take (i := 7) (oi := { dst := some 38, op := Go.Op.binOp Go.BinOp.rem 5 (Go.Operand.tmp 37) (Go.Operand.const (Go.Value.int Go.IntKind.u8 16)) 5, type := 5, pos := "ref.go:209", after := #[{ on := 6, ground := Go.Ground.data }], guard := none }) (v := .int .u8 (l4 : Int)) rfl (by kernel_rfl) (by kernel_rfl) (by kernel_rfl) (fun _ _ _ h => h) (Or.inl ⟨by rfl, ?_⟩) (by assumption) ?_
            · intro w9 hSw
              (try dsimp only at hSw)
              go_simp
            (try simp only [Act.put, List.setIfInBounds_toArray, List.set_cons_zero, List.set_cons_succ])
            refine wpAnyH_take (i := 8) (oi := { dst := some 39, op := Go.Op.index 9 (Go.Operand.tmp 36) (Go.Operand.tmp 38), type := 5, pos := "ref.go:209", after := #[{ on := 5, ground := Go.Ground.data }, { on := 7, ground := Go.Ground.data }], guard := none }) (v := .int .u8 (d2 : Int)) rfl (by kernel_rfl) (by kernel_rfl) (by kernel_rfl) (fun _ _ _ h => h) (Or.inl ⟨by rfl, ?_⟩) (by assumption) ?_
            · intro w9 hSw
              (try dsimp only at hSw)
              go_simp
            (try simp only [Act.put, List.setIfInBounds_toArray, List.set_cons_zero, List.set_cons_succ])
            refine wpAnyH_ready (rs := [9]) (by kernel_rfl) (by simp) ?_
            refine (AllReadyH.cons (o := { dst := some 40, op := Go.Op.buildSlice 34 4 #[(0, Go.Operand.const (Go.Value.int Go.IntKind.u8 92)), (1, Go.Operand.const (Go.Value.int Go.IntKind.u8 120)), (2, Go.Operand.tmp 35), (3, Go.Operand.tmp 39)], type := 34, pos := "ref.go:209", after := #[{ on := 4, ground := Go.Ground.data }, { on := 8, ground := Go.Ground.data }], guard := none }) rfl (fun K hK => ?_) AllReadyH.nil)
            go_simp
            refine hK.out _ _ ?_ (fun hHeld => ?_)
            · exact trivial
            clear hK K
            (try simp only [Act.put, List.setIfInBounds_toArray, List.set_cons_zero, List.set_cons_succ])
            refine wpAnyH_ready (rs := [10]) (by kernel_rfl) (by simp) ?_
            refine (AllReadyH.cons (o := { dst := some 41, op := Go.Op.call { callee := Go.Callee.builtin Go.Builtin.append, args := #[Go.Operand.tmp 31, Go.Operand.tmp 40], argTypes := #[34, 34] }, type := 34, pos := "ref.go:209", after := #[{ on := 0, ground := Go.Ground.data }, { on := 9, ground := Go.Ground.data }], guard := none }) rfl (fun K hK => ?_) AllReadyH.nil)
            refine step_append_all _ rfl (.tmp 31) (.tmp 40) 34 5 34 _ 1 1 rfl Tryz.underlying34 Tryz.info5 rfl w.heap.size (.slice p k c) k (cellsOf (34 :: escL (l.take i))) rfl A4.out.row _ 4 (cellsOf [92, 120, d1, d2]) rfl SR4.out LN4.out.1 LN4.out.2 A4.out.kept.size ?_
            intro p9 c9 w9 ho hg hn9
            have N9 : Hid (QS w (34 :: escL (l.take (i + 1))) p9 (k + 4) c9 w9) := by
              have q := A4.out.more (k := [92, 120, d1, d2]) ho.out hg.out
              have e : 34 :: escL (l.take (i + 1)) = (34 :: escL (l.take i)) ++ [92, 120, d1, d2] := by
                rw [TK.out, escL_snoc]
                unfold escN
                rw [if_neg (by rw [PL.out]; decide), HH.out.1, HH.out.2]
                rfl
              show QS w (34 :: escL (l.take (i + 1))) p9 (k + 4) c9 w9
              rw [e]
              exact q
            refine hK.out _ _ ?_ (fun hHeld => ?_)
            · exact trivial
            clear hK K
            (try simp only [Act.put, List.setIfInBounds_toArray, List.set_cons_zero, List.set_cons_succ])
            clear ho hg hn9 A4 SR4 LN4
            refine wpAnyH_take (i := 11) (oi := { dst := some 4, op := Go.Op.assign (Go.Operand.tmp 41), type := 34, pos := "ref.go:209", after := #[{ on := 10, ground := Go.Ground.data }, { on := 10, ground := Go.Ground.chain }, { on := 0, ground := Go.Ground.phase }, { on := 1, ground := Go.Ground.phase }, { on := 2, ground := Go.Ground.phase }, { on := 3, ground := Go.Ground.phase }, { on := 4, ground := Go.Ground.phase }, { on := 5, ground := Go.Ground.phase }, { on := 6, ground := Go.Ground.phase }, { on := 7, ground := Go.Ground.phase }, { on := 8, ground := Go.Ground.phase }, { on := 9, ground := Go.Ground.phase }, { on := 10, ground := Go.Ground.phase }], guard := none }) (v := .slice p9 (k + 4) c9) rfl (by kernel_rfl) (by kernel_rfl) (by kernel_rfl) (fun _ _ _ h => h) (Or.inl ⟨by rfl, ?_⟩) (by assumption) ?_
            · intro w9 hSw
              (try dsimp only at hSw)
              go_simp
            (try simp only [Act.put, List.setIfInBounds_toArray, List.set_cons_zero, List.set_cons_succ])
            refine wpAnyH_done (by kernel_rfl) ?_ _
            clear hHeld
            go_wp2_with fail
            go_roundw
            case rel => exact ⟨i + 1, p9, k + 4, c9, rfl, by go_num, by omega, by omega, N9⟩
            case measure => simp [intOf] <;> omega
          · by_cases n3 : x = 34
            · have g1 : ¬ (x : Int) < 32 := by omega
              have g2 : ¬ (126 : Int) < (x : Int) := by omega
              have g2' : ¬ (x : Int) > 126 := by omega
              have g3 : ((x : Int) == 34) = true := by rw [n3]; rfl
              clear no n1 n2 n3
              go_upto_region 8 with fail
              refine wp_region_held_drew (S := (fun _ => True)) (by kernel_rfl) trivial (fun hHeld => ?_)
              refine wpAnyH_take (i := 0) (oi := { dst := some 31, op := Go.Op.move (Go.Operand.tmp 4), type := 34, pos := "ref.go:209", after := #[], guard := none }) (v := .slice p k c) rfl (by kernel_rfl) (by kernel_rfl) (by kernel_rfl) (fun _ _ _ h => h) (Or.inl ⟨by rfl, ?_⟩) (by assumption) ?_
              · intro w9 hSw
                (try dsimp only at hSw)
                go_simp
              (try simp only [Act.put, List.setIfInBounds_toArray, List.set_cons_zero, List.set_cons_succ])
              refine wpAnyH_take (i := 1) (oi := { dst := some 32, op := Go.Op.move (Go.Operand.tmp 3), type := 9, pos := "ref.go:209", after := #[], guard := none }) (v := .string ⟨#[48, 49, 50, 51, 52, 53, 54, 55, 56, 57, 97, 98, 99, 100, 101, 102]⟩) rfl (by kernel_rfl) (by kernel_rfl) (by kernel_rfl) (fun _ _ _ h => h) (Or.inl ⟨by rfl, ?_⟩) (by assumption) ?_
              · intro w9 hSw
                (try dsimp only at hSw)
                go_simp
              (try simp only [Act.put, List.setIfInBounds_toArray, List.set_cons_zero, List.set_cons_succ])
              refine wpAnyH_take (i := 2) (oi := { dst := some 33, op := Go.Op.move (Go.Operand.tmp 6), type := 5, pos := "ref.go:209", after := #[], guard := none }) (v := .int .u8 (x : Int)) rfl (by kernel_rfl) (by kernel_rfl) (by kernel_rfl) (fun _ _ _ h => h) (Or.inl ⟨by rfl, ?_⟩) (by assumption) ?_
              · intro w9 hSw
                (try dsimp only at hSw)
                go_simp
              (try simp only [Act.put, List.setIfInBounds_toArray, List.set_cons_zero, List.set_cons_succ])
              refine wpAnyH_take (i := 3) (oi := { dst := some 34, op := Go.Op.binOp Go.BinOp.quo 5 (Go.Operand.tmp 33) (Go.Operand.const (Go.Value.int Go.IntKind.u8 16)) 5, type := 5, pos := "ref.go:209", after := #[{ on := 2, ground := Go.Ground.data }], guard := none }) (v := .int .u8 (h4 : Int)) rfl (by kernel_rfl) (by kernel_rfl) (by kernel_rfl) (fun _ _ _ h => h) (Or.inl ⟨by rfl, ?_⟩) (by assumption) ?_
              · intro w9 hSw
                (try dsimp only at hSw)
                go_simp
              (try simp only [Act.put, List.setIfInBounds_toArray, List.set_cons_zero, List.set_cons_succ])
              refine wpAnyH_take (i := 4) (oi := { dst := some 35, op := Go.Op.index 9 (Go.Operand.tmp 32) (Go.Operand.tmp 34), type := 5, pos := "ref.go:209", after := #[{ on := 1, ground := Go.Ground.data }, { on := 3, ground := Go.Ground.data }], guard := none }) (v := .int .u8 (d1 : Int)) rfl (by kernel_rfl) (by kernel_rfl) (by kernel_rfl) (fun _ _ _ h => h) (Or.inl ⟨by rfl, ?_⟩) (by assumption) ?_
              · intro w9 hSw
                (try dsimp only at hSw)
                go_simp
              (try simp only [Act.put, List.setIfInBounds_toArray, List.set_cons_zero, List.set_cons_succ])
              refine wpAnyH_take (i := 5) (oi := { dst := some 36, op := Go.Op.move (Go.Operand.tmp 3), type := 9, pos := "ref.go:209", after := #[], guard := none }) (v := .string ⟨#[48, 49, 50, 51, 52, 53, 54, 55, 56, 57, 97, 98, 99, 100, 101, 102]⟩) rfl (by kernel_rfl) (by kernel_rfl) (by kernel_rfl) (fun _ _ _ h => h) (Or.inl ⟨by rfl, ?_⟩) (by assumption) ?_
              · intro w9 hSw
                (try dsimp only at hSw)
                go_simp
              (try simp only [Act.put, List.setIfInBounds_toArray, List.set_cons_zero, List.set_cons_succ])
              refine wpAnyH_take (i := 6) (oi := { dst := some 37, op := Go.Op.move (Go.Operand.tmp 6), type := 5, pos := "ref.go:209", after := #[], guard := none }) (v := .int .u8 (x : Int)) rfl (by kernel_rfl) (by kernel_rfl) (by kernel_rfl) (fun _ _ _ h => h) (Or.inl ⟨by rfl, ?_⟩) (by assumption) ?_
              · intro w9 hSw
                (try dsimp only at hSw)
                go_simp
              (try simp only [Act.put, List.setIfInBounds_toArray, List.set_cons_zero, List.set_cons_succ])
              refine wpAnyH_take (i := 7) (oi := { dst := some 38, op := Go.Op.binOp Go.BinOp.rem 5 (Go.Operand.tmp 37) (Go.Operand.const (Go.Value.int Go.IntKind.u8 16)) 5, type := 5, pos := "ref.go:209", after := #[{ on := 6, ground := Go.Ground.data }], guard := none }) (v := .int .u8 (l4 : Int)) rfl (by kernel_rfl) (by kernel_rfl) (by kernel_rfl) (fun _ _ _ h => h) (Or.inl ⟨by rfl, ?_⟩) (by assumption) ?_
              · intro w9 hSw
                (try dsimp only at hSw)
                go_simp
              (try simp only [Act.put, List.setIfInBounds_toArray, List.set_cons_zero, List.set_cons_succ])
              refine wpAnyH_take (i := 8) (oi := { dst := some 39, op := Go.Op.index 9 (Go.Operand.tmp 36) (Go.Operand.tmp 38), type := 5, pos := "ref.go:209", after := #[{ on := 5, ground := Go.Ground.data }, { on := 7, ground := Go.Ground.data }], guard := none }) (v := .int .u8 (d2 : Int)) rfl (by kernel_rfl) (by kernel_rfl) (by kernel_rfl) (fun _ _ _ h => h) (Or.inl ⟨by rfl, ?_⟩) (by assumption) ?_
              · intro w9 hSw
                (try dsimp only at hSw)
                go_simp
              (try simp only [Act.put, List.setIfInBounds_toArray, List.set_cons_zero, List.set_cons_succ])
              refine wpAnyH_ready (rs := [9]) (by kernel_rfl) (by simp) ?_
              refine (AllReadyH.cons (o := { dst := some 40, op := Go.Op.buildSlice 34 4 #[(0, Go.Operand.const (Go.Value.int Go.IntKind.u8 92)), (1, Go.Operand.const (Go.Value.int Go.IntKind.u8 120)), (2, Go.Operand.tmp 35), (3, Go.Operand.tmp 39)], type := 34, pos := "ref.go:209", after := #[{ on := 4, ground := Go.Ground.data }, { on := 8, ground := Go.Ground.data }], guard := none }) rfl (fun K hK => ?_) AllReadyH.nil)
              go_simp
              refine hK.out _ _ ?_ (fun hHeld => ?_)
              · exact trivial
              clear hK K
              (try simp only [Act.put, List.setIfInBounds_toArray, List.set_cons_zero, List.set_cons_succ])
              refine wpAnyH_ready (rs := [10]) (by kernel_rfl) (by simp) ?_
              refine (AllReadyH.cons (o := { dst := some 41, op := Go.Op.call { callee := Go.Callee.builtin Go.Builtin.append, args := #[Go.Operand.tmp 31, Go.Operand.tmp 40], argTypes := #[34, 34] }, type := 34, pos := "ref.go:209", after := #[{ on := 0, ground := Go.Ground.data }, { on := 9, ground := Go.Ground.data }], guard := none }) rfl (fun K hK => ?_) AllReadyH.nil)
              refine step_append_all _ rfl (.tmp 31) (.tmp 40) 34 5 34 _ 1 1 rfl Tryz.underlying34 Tryz.info5 rfl w.heap.size (.slice p k c) k (cellsOf (34 :: escL (l.take i))) rfl A4.out.row _ 4 (cellsOf [92, 120, d1, d2]) rfl SR4.out LN4.out.1 LN4.out.2 A4.out.kept.size ?_
              intro p9 c9 w9 ho hg hn9
              have N9 : Hid (QS w (34 :: escL (l.take (i + 1))) p9 (k + 4) c9 w9) := by
                have q := A4.out.more (k := [92, 120, d1, d2]) ho.out hg.out
                have e : 34 :: escL (l.take (i + 1)) = (34 :: escL (l.take i)) ++ [92, 120, d1, d2] := by
                  rw [TK.out, escL_snoc]
                  unfold escN
                  rw [if_neg (by rw [PL.out]; decide), HH.out.1, HH.out.2]
                  rfl
                show QS w (34 :: escL (l.take (i + 1))) p9 (k + 4) c9 w9
                rw [e]
                exact q
              refine hK.out _ _ ?_ (fun hHeld => ?_)
              · exact trivial
              clear hK K
              (try simp only [Act.put, List.setIfInBounds_toArray, List.set_cons_zero, List.set_cons_succ])
              clear ho hg hn9 A4 SR4 LN4
              refine wpAnyH_take (i := 11) (oi := { dst := some 4, op := Go.Op.assign (Go.Operand.tmp 41), type := 34, pos := "ref.go:209", after := #[{ on := 10, ground := Go.Ground.data }, { on := 10, ground := Go.Ground.chain }, { on := 0, ground := Go.Ground.phase }, { on := 1, ground := Go.Ground.phase }, { on := 2, ground := Go.Ground.phase }, { on := 3, ground := Go.Ground.phase }, { on := 4, ground := Go.Ground.phase }, { on := 5, ground := Go.Ground.phase }, { on := 6, ground := Go.Ground.phase }, { on := 7, ground := Go.Ground.phase }, { on := 8, ground := Go.Ground.phase }, { on := 9, ground := Go.Ground.phase }, { on := 10, ground := Go.Ground.phase }], guard := none }) (v := .slice p9 (k + 4) c9) rfl (by kernel_rfl) (by kernel_rfl) (by kernel_rfl) (fun _ _ _ h => h) (Or.inl ⟨by rfl, ?_⟩) (by assumption) ?_
              · intro w9 hSw
                (try dsimp only at hSw)
                go_simp
              (try simp only [Act.put, List.setIfInBounds_toArray, List.set_cons_zero, List.set_cons_succ])
              refine wpAnyH_done (by kernel_rfl) ?_ _
              clear hHeld
              go_wp2_with fail
              go_roundw
              case rel => exact ⟨i + 1, p9, k + 4, c9, rfl, by go_num, by omega, by omega, N9⟩
              case measure => simp [intOf] <;> omega
            · have n4 : x = 92 := by omega
              have g1 : ¬ (x : Int) < 32 := by omega
              have g2 : ¬ (126 : Int) < (x : Int) := by omega
              have g2' : ¬ (x : Int) > 126 := by omega
              have g3 : ((x : Int) == 34) = false := by rw [n4]; rfl
              have g4 : ((x : Int) == 92) = true := by rw [n4]; rfl
              clear no n1 n2 n3 n4
              go_upto_region 8 with fail
              refine wp_region_held_drew (S := (fun _ => True)) (by kernel_rfl) trivial (fun hHeld => ?_)
              refine wpAnyH_take (i := 0) (oi := { dst := some 31, op := Go.Op.move (Go.Operand.tmp 4), type := 34, pos := "ref.go:209", after := #[], guard := none }) (v := .slice p k c) rfl (by kernel_rfl) (by kernel_rfl) (by kernel_rfl) (fun _ _ _ h => h) (Or.inl ⟨by rfl, ?_⟩) (by assumption) ?_
              · intro w9 hSw
                (try dsimp only at hSw)
                go_simp
              (try simp only [Act.put, List.setIfInBounds_toArray, List.set_cons_zero, List.set_cons_succ])
              refine wpAnyH_take (i := 1) (oi := { dst := some 32, op := Go.Op.move (Go.Operand.tmp 3), type := 9, pos := "ref.go:209", after := #[], guard := none }) (v := .string ⟨#[48, 49, 50, 51, 52, 53, 54, 55, 56, 57, 97, 98, 99, 100, 101, 102]⟩) rfl (by kernel_rfl) (by kernel_rfl) (by kernel_rfl) (fun _ _ _ h => h) (Or.inl ⟨by rfl, ?_⟩) (by assumption) ?_
              · intro w9 hSw
                (try dsimp only at hSw)
                go_simp
              (try simp only [Act.put, List.setIfInBounds_toArray, List.set_cons_zero, List.set_cons_succ])
              refine wpAnyH_take (i := 2) (oi := { dst := some 33, op := Go.Op.move (Go.Operand.tmp 6), type := 5, pos := "ref.go:209", after := #[], guard := none }) (v := .int .u8 (x : Int)) rfl (by kernel_rfl) (by kernel_rfl) (by kernel_rfl) (fun _ _ _ h => h) (Or.inl ⟨by rfl, ?_⟩) (by assumption) ?_
              · intro w9 hSw
                (try dsimp only at hSw)
                go_simp
              (try simp only [Act.put, List.setIfInBounds_toArray, List.set_cons_zero, List.set_cons_succ])
              refine wpAnyH_take (i := 3) (oi := { dst := some 34, op := Go.Op.binOp Go.BinOp.quo 5 (Go.Operand.tmp 33) (Go.Operand.const (Go.Value.int Go.IntKind.u8 16)) 5, type := 5, pos := "ref.go:209", after := #[{ on := 2, ground := Go.Ground.data }], guard := none }) (v := .int .u8 (h4 : Int)) rfl (by kernel_rfl) (by kernel_rfl) (by kernel_rfl) (fun _ _ _ h => h) (Or.inl ⟨by rfl, ?_⟩) (by assumption) ?_
              · intro w9 hSw
                (try dsimp only at hSw)
                go_simp
              (try simp only [Act.put, List.setIfInBounds_toArray, List.set_cons_zero, List.set_cons_succ])
              refine wpAnyH_take (i := 4) (oi := { dst := some 35, op := Go.Op.index 9 (Go.Operand.tmp 32) (Go.Operand.tmp 34), type := 5, pos := "ref.go:209", after := #[{ on := 1, ground := Go.Ground.data }, { on := 3, ground := Go.Ground.data }], guard := none }) (v := .int .u8 (d1 : Int)) rfl (by kernel_rfl) (by kernel_rfl) (by kernel_rfl) (fun _ _ _ h => h) (Or.inl ⟨by rfl, ?_⟩) (by assumption) ?_
              · intro w9 hSw
                (try dsimp only at hSw)
                go_simp
              (try simp only [Act.put, List.setIfInBounds_toArray, List.set_cons_zero, List.set_cons_succ])
              refine wpAnyH_take (i := 5) (oi := { dst := some 36, op := Go.Op.move (Go.Operand.tmp 3), type := 9, pos := "ref.go:209", after := #[], guard := none }) (v := .string ⟨#[48, 49, 50, 51, 52, 53, 54, 55, 56, 57, 97, 98, 99, 100, 101, 102]⟩) rfl (by kernel_rfl) (by kernel_rfl) (by kernel_rfl) (fun _ _ _ h => h) (Or.inl ⟨by rfl, ?_⟩) (by assumption) ?_
              · intro w9 hSw
                (try dsimp only at hSw)
                go_simp
              (try simp only [Act.put, List.setIfInBounds_toArray, List.set_cons_zero, List.set_cons_succ])
              refine wpAnyH_take (i := 6) (oi := { dst := some 37, op := Go.Op.move (Go.Operand.tmp 6), type := 5, pos := "ref.go:209", after := #[], guard := none }) (v := .int .u8 (x : Int)) rfl (by kernel_rfl) (by kernel_rfl) (by kernel_rfl) (fun _ _ _ h => h) (Or.inl ⟨by rfl, ?_⟩) (by assumption) ?_
              · intro w9 hSw
                (try dsimp only at hSw)
                go_simp
              (try simp only [Act.put, List.setIfInBounds_toArray, List.set_cons_zero, List.set_cons_succ])
              refine wpAnyH_take (i := 7) (oi := { dst := some 38, op := Go.Op.binOp Go.BinOp.rem 5 (Go.Operand.tmp 37) (Go.Operand.const (Go.Value.int Go.IntKind.u8 16)) 5, type := 5, pos := "ref.go:209", after := #[{ on := 6, ground := Go.Ground.data }], guard := none }) (v := .int .u8 (l4 : Int)) rfl (by kernel_rfl) (by kernel_rfl) (by kernel_rfl) (fun _ _ _ h => h) (Or.inl ⟨by rfl, ?_⟩) (by assumption) ?_
              · intro w9 hSw
                (try dsimp only at hSw)
                go_simp
              (try simp only [Act.put, List.setIfInBounds_toArray, List.set_cons_zero, List.set_cons_succ])
              refine wpAnyH_take (i := 8) (oi := { dst := some 39, op := Go.Op.index 9 (Go.Operand.tmp 36) (Go.Operand.tmp 38), type := 5, pos := "ref.go:209", after := #[{ on := 5, ground := Go.Ground.data }, { on := 7, ground := Go.Ground.data }], guard := none }) (v := .int .u8 (d2 : Int)) rfl (by kernel_rfl) (by kernel_rfl) (by kernel_rfl) (fun _ _ _ h => h) (Or.inl ⟨by rfl, ?_⟩) (by assumption) ?_
              · intro w9 hSw
                (try dsimp only at hSw)
                go_simp
              (try simp only [Act.put, List.setIfInBounds_toArray, List.set_cons_zero, List.set_cons_succ])
              refine wpAnyH_ready (rs := [9]) (by kernel_rfl) (by simp) ?_
              refine (AllReadyH.cons (o := { dst := some 40, op := Go.Op.buildSlice 34 4 #[(0, Go.Operand.const (Go.Value.int Go.IntKind.u8 92)), (1, Go.Operand.const (Go.Value.int Go.IntKind.u8 120)), (2, Go.Operand.tmp 35), (3, Go.Operand.tmp 39)], type := 34, pos := "ref.go:209", after := #[{ on := 4, ground := Go.Ground.data }, { on := 8, ground := Go.Ground.data }], guard := none }) rfl (fun K hK => ?_) AllReadyH.nil)
              go_simp
              refine hK.out _ _ ?_ (fun hHeld => ?_)
              · exact trivial
              clear hK K
              (try simp only [Act.put, List.setIfInBounds_toArray, List.set_cons_zero, List.set_cons_succ])
              refine wpAnyH_ready (rs := [10]) (by kernel_rfl) (by simp) ?_
              refine (AllReadyH.cons (o := { dst := some 41, op := Go.Op.call { callee := Go.Callee.builtin Go.Builtin.append, args := #[Go.Operand.tmp 31, Go.Operand.tmp 40], argTypes := #[34, 34] }, type := 34, pos := "ref.go:209", after := #[{ on := 0, ground := Go.Ground.data }, { on := 9, ground := Go.Ground.data }], guard := none }) rfl (fun K hK => ?_) AllReadyH.nil)
              refine step_append_all _ rfl (.tmp 31) (.tmp 40) 34 5 34 _ 1 1 rfl Tryz.underlying34 Tryz.info5 rfl w.heap.size (.slice p k c) k (cellsOf (34 :: escL (l.take i))) rfl A4.out.row _ 4 (cellsOf [92, 120, d1, d2]) rfl SR4.out LN4.out.1 LN4.out.2 A4.out.kept.size ?_
              intro p9 c9 w9 ho hg hn9
              have N9 : Hid (QS w (34 :: escL (l.take (i + 1))) p9 (k + 4) c9 w9) := by
                have q := A4.out.more (k := [92, 120, d1, d2]) ho.out hg.out
                have e : 34 :: escL (l.take (i + 1)) = (34 :: escL (l.take i)) ++ [92, 120, d1, d2] := by
                  rw [TK.out, escL_snoc]
                  unfold escN
                  rw [if_neg (by rw [PL.out]; decide), HH.out.1, HH.out.2]
                  rfl
                show QS w (34 :: escL (l.take (i + 1))) p9 (k + 4) c9 w9
                rw [e]
                exact q
              refine hK.out _ _ ?_ (fun hHeld => ?_)
              · exact trivial
              clear hK K
              (try simp only [Act.put, List.setIfInBounds_toArray, List.set_cons_zero, List.set_cons_succ])
              clear ho hg hn9 A4 SR4 LN4
              refine wpAnyH_take (i := 11) (oi := { dst := some 4, op := Go.Op.assign (Go.Operand.tmp 41), type := 34, pos := "ref.go:209", after := #[{ on := 10, ground := Go.Ground.data }, { on := 10, ground := Go.Ground.chain }, { on := 0, ground := Go.Ground.phase }, { on := 1, ground := Go.Ground.phase }, { on := 2, ground := Go.Ground.phase }, { on := 3, ground := Go.Ground.phase }, { on := 4, ground := Go.Ground.phase }, { on := 5, ground := Go.Ground.phase }, { on := 6, ground := Go.Ground.phase }, { on := 7, ground := Go.Ground.phase }, { on := 8, ground := Go.Ground.phase }, { on := 9, ground := Go.Ground.phase }, { on := 10, ground := Go.Ground.phase }], guard := none }) (v := .slice p9 (k + 4) c9) rfl (by kernel_rfl) (by kernel_rfl) (by kernel_rfl) (fun _ _ _ h => h) (Or.inl ⟨by rfl, ?_⟩) (by assumption) ?_
              · intro w9 hSw
                (try dsimp only at hSw)
                go_simp
              (try simp only [Act.put, List.setIfInBounds_toArray, List.set_cons_zero, List.set_cons_succ])
              refine wpAnyH_done (by kernel_rfl) ?_ _
              clear hHeld
              go_wp2_with fail
              go_roundw
              case rel => exact ⟨i + 1, p9, k + 4, c9, rfl, by go_num, by omega, by omega, N9⟩
              case measure => simp [intOf] <;> omega
    · have lti : ¬ (i : Int) < (n : Int) := by omega
      obtain rfl : i = n := by omega
      have eL : l.take i = l := List.take_of_length_le (by rw [HL.out.2.1]; exact Nat.le_refl _)
      rw [eL] at S
      clear eL
      obtain ⟨V, hV⟩ : ∃ V, wo.alloc (.cells #[.int .u8 34] 5) = V := ⟨_, rfl⟩
      have A1 : Hid (QS w (34 :: escL l) p k c V) := by rw [← hV]; exact S.out.on ((Kept.refl _ _).alloc _)
      have SR : Hid (Src Tryz.prog 1 34 (.slice (some ⟨wo.heap.size, 0, none⟩) 1 1) 1 (cellsOf [34]) V) := by rw [← hV]; exact src_row (alloc_new _ _) rfl rfl
      have EV : Hid (wo.alloc (.cells #[.int .u8 34] 5) = V) := hV
      clear hV S
      go_wp2_with
        (first
          | (at_builtin; rw [EV.out]; refine wpList_append_bytes _ rfl (.tmp 46) (.tmp 47) rfl w.heap.size (.slice p k c) k (34 :: escL l) rfl A1.out.row _ 1 [34] rfl SR.out (by omega) A1.out.kept.size ?_; intro p9 c9 w9 ho hg hn9; have cv : (convert 34 9 (.slice p9 (k + 1) c9)).run Tryz.prog w9 = .ok (.string (str (quoN l))) w9 := (reads_own (l := quoN l) ho.out (quoN_lt HL.out.2.2)).string)
          | fail)
      have F : Hid (Kept (fun _ => False) w w9) := A1.out.grow hg.out
      go_ret
      exact ⟨rfl, F.out⟩
end Go.Proofs.YtbangbobfeflcaaGreatDoor
