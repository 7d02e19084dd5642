import Derived.Test.YtonfefhegghapaaDoorSNumJ
import Derived.Deep.RegionHeldLaw
namespace Go.Proofs.YtonfefhegghapaaDoor
open Go.RowKit 

def ofL (l : List UInt8) : ByteArray := ⟨l.toArray⟩
theorem byte_string {V : World} {b : Nat} {u : Nat} (hu : u < 10) (h : V.heap[b]? = some (.cells #[.int .u8 ((48 : Int) + (u : Int))] 5 (0, 0))) : (convert 35 9 (.slice (some ⟨b, 0, none⟩) 1 1)).run Tryd.prog V = .ok (.string (ofL [UInt8.ofNat (48 + u)])) V := by
  have o := made_bytes (Nat.zero_le b) [48 + u] (by simp) #[.int .u8 ((48 : Int) + (u : Int))] (by simp [cellsOf]) h
  obtain ⟨a, c, e, r, _⟩ := owns_reads o (fun c hc => by rw [List.mem_singleton.1 hc]; omega)
  simp at e
  obtain ⟨rfl, rfl⟩ := e
  have q := r.string
  exact q
theorem ofL_append (a b : List UInt8) : (ofL a).append (ofL b) = ofL (a ++ b) := by
  apply ByteArray.ext
  apply Array.toList_inj.1
  simp [ofL]
theorem ofL_self (s : ByteArray) : ofL s.data.toList = s := by
  apply ByteArray.ext
  apply Array.toList_inj.1
  simp [ofL]
theorem dec_len : ∀ (u : Nat), u < 4611686018427387904 → (Lib.decDigits u).length ≤ 4611686018427387905 := by
  have key : ∀ f u : Nat, u < f → (Lib.decDigits u).length ≤ u + 1 := by
    intro f
    induction f with
    | zero => intro u h; omega
    | succ f ih =>
      intro u hu
      rw [Lib.decDigits]
      by_cases h : u < 10
      · rw [dif_pos h]
        simp
      · rw [dif_neg h, List.length_append]
        have := ih (u / 10) (by omega)
        simp
        omega
  intro u h
  have := key (u + 1) u (by omega)
  omega
set_option maxRecDepth 100000 in
set_option maxHeartbeats 1000000 in
theorem hDecN (f : Nat) : ∀ u : Nat, u < f → u < 4611686018427387904 → ∀ w : World, Calls Tryd.prog 8 #[.int .i64 (u : Int)] w fun o w' => o = .returned (.string (ofL (Lib.decDigits u))) ∧ Kept (fun _ => False) w w' := by
  induction f with
  | zero => intro u h; omega
  | succ f ih =>
    intro u hu hb w
    rw [Lib.decDigits]
    have n0 : ¬ (u : Int) < 0 := by omega
    by_cases h : u < 10
    · rw [dif_pos h]
      have n1 : (u : Int) < 10 := by omega
      have w1 : IntKind.u8.wrap (u : Int) = (u : Int) := by rw [IntKind.wrap_u8]; omega
      have w2 : IntKind.u8.wrap (48 + (u : Int)) = 48 + (u : Int) := by rw [IntKind.wrap_u8]; omega
      have cv := byte_string h (alloc_new w (.cells #[.int .u8 ((48 : Int) + (u : Int))] 5))
      have K : Hid (Kept (fun _ => False) w (w.alloc (.cells #[.int .u8 ((48 : Int) + (u : Int))] 5))) := (Kept.refl _ _).alloc _
      go_enter Tryd.func8, Tryd.ntmps8
      go_wp2_with fail
      go_ret
      exact ⟨by first | rfl | simp, K.out⟩
    · rw [dif_neg h]
      have n1 : ¬ (u : Int) < 10 := by omega
      obtain ⟨d, hd⟩ : ∃ d, d = u / 10 := ⟨_, rfl⟩
      obtain ⟨r, hr⟩ : ∃ r, r = u % 10 := ⟨_, rfl⟩
      have q1 : Int.tdiv (u : Int) 10 = (d : Int) := by rw [Int.tdiv_eq_ediv_of_nonneg (by omega)]; omega
      have q2 : Int.tmod (u : Int) 10 = (r : Int) := by rw [Int.tmod_eq_emod_of_nonneg (by omega)]; omega
      have r1 : r < 10 := by omega
      have CD : Hid (∀ V : World, Calls Tryd.prog 8 #[.int .i64 (d : Int)] V fun o w' => o = .returned (.string (ofL (Lib.decDigits d))) ∧ Kept (fun _ => False) V w') := fun V => ih d (by omega) (by omega) V
      have w0 : IntKind.i64.wrap (d : Int) = (d : Int) := by rw [IntKind.wrap_i64]; omega
      have w1 : IntKind.u8.wrap (r : Int) = (r : Int) := by rw [IntKind.wrap_u8]; omega
      have w2 : IntKind.u8.wrap (48 + (r : Int)) = 48 + (r : Int) := by rw [IntKind.wrap_u8]; omega
      rw [← hr, ← hd]
      obtain ⟨bt, hbt⟩ : ∃ bt, bt = UInt8.ofNat (48 + r) := ⟨_, rfl⟩
      obtain ⟨TD, hTD⟩ : ∃ TD, TD = ofL (Lib.decDigits d) := ⟨_, rfl⟩
      obtain ⟨TB, hTB⟩ : ∃ TB, TB = ofL [bt] := ⟨_, rfl⟩
      obtain ⟨TT, hTT⟩ : ∃ TT, TT = ofL (Lib.decDigits d ++ [bt]) := ⟨_, rfl⟩
      have hcat : TD ++ TB = TT := by rw [hTD, hTB, hTT]; exact ofL_append _ _
      have hcs : ¬ 9223372036854775807 < TD.size + TB.size := by
        have e1 : TD.size = (Lib.decDigits d).length := by rw [hTD]; simp [ofL, ByteArray.size]
        have e2 : TB.size = 1 := by rw [hTB]; rfl
        have := dec_len d (by omega)
        omega
      rw [← hbt, ← hTT]
      rw [← hTD] at CD
      clear ih hd hr
      have BS : Hid (∀ (V : World) (b : Nat), V.heap[b]? = some (.cells #[.int .u8 ((48 : Int) + (r : Int))] 5 (0, 0)) → (convert 35 9 (.slice (some ⟨b, 0, none⟩) 1 1)).run Tryd.prog V = .ok (.string TB) V) := fun V b hb => by rw [hTB, hbt]; exact byte_string r1 hb
      clear hTB hTT hTD hbt
      go_enter Tryd.func8, Tryd.ntmps8
      go_upto_region 5 with fail
      refine wp_region_held_drew (S := (fun _ => True)) (by kernel_rfl) trivial (fun hHeld => ?_)
      refine wpAnyH_take (i := 0) (oi := { dst := some 16, op := Go.Op.move (Go.Operand.tmp 0), type := 3, pos := "law.go:223", after := #[], guard := none }) (v := .int .i64 (u : Int)) rfl (by kernel_rfl) (by kernel_rfl) (by kernel_rfl) (fun _ _ _ h => h) (Or.inl ⟨by rfl, ?_⟩) (by assumption) ?_
      · intro w9 hSw
        (try dsimp only at hSw)
        go_simp
      (try simp only [Act.put, List.setIfInBounds_toArray, List.set_cons_zero, List.set_cons_succ])
      refine wpAnyH_take (i := 1) (oi := { dst := some 17, op := Go.Op.binOp Go.BinOp.quo 3 (Go.Operand.tmp 16) (Go.Operand.const (Go.Value.int Go.IntKind.i64 10)) 3, type := 3, pos := "law.go:223", after := #[{ on := 0, ground := Go.Ground.data }], guard := none }) (v := .int .i64 (d : Int)) rfl (by kernel_rfl) (by kernel_rfl) (by kernel_rfl) (fun _ _ _ h => h) (Or.inl ⟨by rfl, ?_⟩) (by assumption) ?_
      · intro w9 hSw
        (try dsimp only at hSw)
        go_simp
      (try simp only [Act.put, List.setIfInBounds_toArray, List.set_cons_zero, List.set_cons_succ])
      refine wpAnyH_take (i := 3) (oi := { dst := some 19, op := Go.Op.move (Go.Operand.tmp 0), type := 3, pos := "law.go:223", after := #[], guard := none }) (v := .int .i64 (u : Int)) rfl (by kernel_rfl) (by kernel_rfl) (by kernel_rfl) (fun _ _ _ h => h) (Or.inl ⟨by rfl, ?_⟩) (by assumption) ?_
      · intro w9 hSw
        (try dsimp only at hSw)
        go_simp
      (try simp only [Act.put, List.setIfInBounds_toArray, List.set_cons_zero, List.set_cons_succ])
      refine wpAnyH_take (i := 4) (oi := { dst := some 20, op := Go.Op.binOp Go.BinOp.rem 3 (Go.Operand.tmp 19) (Go.Operand.const (Go.Value.int Go.IntKind.i64 10)) 3, type := 3, pos := "law.go:223", after := #[{ on := 3, ground := Go.Ground.data }], guard := none }) (v := .int .i64 (r : Int)) rfl (by kernel_rfl) (by kernel_rfl) (by kernel_rfl) (fun _ _ _ h => h) (Or.inl ⟨by rfl, ?_⟩) (by assumption) ?_
      · intro w9 hSw
        (try dsimp only at hSw)
        go_simp
      (try simp only [Act.put, List.setIfInBounds_toArray, List.set_cons_zero, List.set_cons_succ])
      refine wpAnyH_take (i := 5) (oi := { dst := some 21, op := Go.Op.convert 3 5 (Go.Operand.tmp 20), type := 5, pos := "law.go:223", after := #[{ on := 4, ground := Go.Ground.data }], guard := none }) (v := .int .u8 (r : Int)) rfl (by kernel_rfl) (by kernel_rfl) (by kernel_rfl) (fun _ _ _ h => h) (Or.inl ⟨by rfl, ?_⟩) (by assumption) ?_
      · intro w9 hSw
        (try dsimp only at hSw)
        go_simp
      (try simp only [Act.put, List.setIfInBounds_toArray, List.set_cons_zero, List.set_cons_succ])
      refine wpAnyH_take (i := 6) (oi := { dst := some 22, op := Go.Op.binOp Go.BinOp.add 5 (Go.Operand.const (Go.Value.int Go.IntKind.u8 48)) (Go.Operand.tmp 21) 5, type := 5, pos := "law.go:223", after := #[{ on := 5, ground := Go.Ground.data }], guard := none }) (v := .int .u8 ((48 : Int) + (r : Int))) rfl (by kernel_rfl) (by kernel_rfl) (by kernel_rfl) (fun _ _ _ h => h) (Or.inl ⟨by rfl, ?_⟩) (by assumption) ?_
      · intro w9 hSw
        (try dsimp only at hSw)
        go_simp
      (try simp only [Act.put, List.setIfInBounds_toArray, List.set_cons_zero, List.set_cons_succ])
      refine wpAnyH_ready (rs := [2, 7]) (by kernel_rfl) (by simp) ?_
      refine (AllReadyH.cons (o := { dst := some 18, op := Go.Op.call { callee := Go.Callee.value (Go.Operand.func 8), args := #[Go.Operand.tmp 17], argTypes := #[3] }, type := 9, pos := "law.go:223", after := #[{ on := 1, ground := Go.Ground.data }], guard := none }) rfl (fun K hK => ?_) (AllReadyH.cons (o := { dst := some 23, op := Go.Op.buildSlice 35 1 #[(0, Go.Operand.tmp 22)], type := 35, pos := "law.go:223", after := #[{ on := 6, ground := Go.Ground.data }], guard := none }) rfl (fun K hK => ?_) AllReadyH.nil))
      · go_simp
        refine (CD.out _).mono ?_
        rintro x w1 ⟨rfl, K1⟩
        refine hK.out _ _ ?_ (fun hHeld => ?_)
        · exact trivial
        clear hK K
        (try simp only [Act.put, List.setIfInBounds_toArray, List.set_cons_zero, List.set_cons_succ])
        refine wpAnyH_ready (rs := [7]) (by kernel_rfl) (by simp) ?_
        refine (AllReadyH.cons (o := { dst := some 23, op := Go.Op.buildSlice 35 1 #[(0, Go.Operand.tmp 22)], type := 35, pos := "law.go:223", after := #[{ on := 6, ground := Go.Ground.data }], guard := none }) rfl (fun K hK => ?_) AllReadyH.nil)
        go_simp
        refine hK.out _ _ ?_ (fun hHeld => ?_)
        · exact trivial
        clear hK K
        (try simp only [Act.put, List.setIfInBounds_toArray, List.set_cons_zero, List.set_cons_succ])
        have cv := BS.out (w1.alloc (.cells #[.int .u8 ((48 : Int) + (r : Int))] 5)) w1.heap.size (alloc_new _ _)
        refine wpAnyH_ready (rs := [8]) (by kernel_rfl) (by simp) ?_
        refine (AllReadyH.cons (o := { dst := some 24, op := Go.Op.convert 35 9 (Go.Operand.tmp 23), type := 9, pos := "law.go:223", after := #[{ on := 7, ground := Go.Ground.data }], guard := none }) rfl (fun K hK => ?_) AllReadyH.nil)
        go_simp
        refine hK.out _ _ ?_ (fun hHeld => ?_)
        · exact trivial
        clear hK K
        (try simp only [Act.put, List.setIfInBounds_toArray, List.set_cons_zero, List.set_cons_succ])
        refine wpAnyH_take (i := 9) (oi := { dst := some 25, op := Go.Op.binOp Go.BinOp.add 9 (Go.Operand.tmp 18) (Go.Operand.tmp 24) 9, type := 9, pos := "law.go:223", after := #[{ on := 2, ground := Go.Ground.data }, { on := 8, ground := Go.Ground.data }], guard := none }) (v := .string TT) rfl (by kernel_rfl) (by kernel_rfl) (by kernel_rfl) (fun _ _ _ h => h) (Or.inl ⟨by rfl, ?_⟩) (by assumption) ?_
        · intro w9 hSw
          (try dsimp only at hSw)
          go_simp
        (try simp only [Act.put, List.setIfInBounds_toArray, List.set_cons_zero, List.set_cons_succ])
        refine wpAnyH_take (i := 10) (oi := { dst := some 2, op := Go.Op.assign (Go.Operand.tmp 25), type := 9, pos := "law.go:223", after := #[{ on := 9, ground := Go.Ground.data }, { on := 2, ground := Go.Ground.chain }, { on := 0, ground := Go.Ground.phase }, { on := 1, ground := Go.Ground.phase }, { on := 2, ground := Go.Ground.phase }, { on := 3, ground := Go.Ground.phase }, { on := 4, ground := Go.Ground.phase }, { on := 5, ground := Go.Ground.phase }, { on := 6, ground := Go.Ground.phase }, { on := 7, ground := Go.Ground.phase }, { on := 8, ground := Go.Ground.phase }, { on := 9, ground := Go.Ground.phase }], guard := none }) (v := .string TT) rfl (by kernel_rfl) (by kernel_rfl) (by kernel_rfl) (fun _ _ _ h => h) (Or.inl ⟨by rfl, ?_⟩) (by assumption) ?_
        · intro w9 hSw
          (try dsimp only at hSw)
          go_simp
        (try simp only [Act.put, List.setIfInBounds_toArray, List.set_cons_zero, List.set_cons_succ])
        refine wpAnyH_done (by kernel_rfl) ?_ _
        have F : Hid (Kept (fun _ => False) w (w1.alloc (.cells #[.int .u8 ((48 : Int) + (r : Int))] 5))) := ((Kept.refl (fun _ => False) w).drew.trans K1 (fun _ _ z => z)).alloc _
        go_wp2_with fail
        go_ret
        exact ⟨by first | rfl | simp, F.out⟩
      · go_simp
        refine hK.out _ _ ?_ (fun hHeld => ?_)
        · exact trivial
        clear hK K
        (try simp only [Act.put, List.setIfInBounds_toArray, List.set_cons_zero, List.set_cons_succ])
        have cv := BS.out (w.alloc (.cells #[.int .u8 ((48 : Int) + (r : Int))] 5)).drew w.heap.size (alloc_new w _)
        refine wpAnyH_ready (rs := [2, 8]) (by kernel_rfl) (by simp) ?_
        refine (AllReadyH.cons (o := { dst := some 18, op := Go.Op.call { callee := Go.Callee.value (Go.Operand.func 8), args := #[Go.Operand.tmp 17], argTypes := #[3] }, type := 9, pos := "law.go:223", after := #[{ on := 1, ground := Go.Ground.data }], guard := none }) rfl (fun K hK => ?_) (AllReadyH.cons (o := { dst := some 24, op := Go.Op.convert 35 9 (Go.Operand.tmp 23), type := 9, pos := "law.go:223", after := #[{ on := 7, ground := Go.Ground.data }], guard := none }) rfl (fun K hK => ?_) AllReadyH.nil))
        · go_simp
          refine (CD.out _).mono ?_
          rintro x w1 ⟨rfl, K1⟩
          refine hK.out _ _ ?_ (fun hHeld => ?_)
          · exact trivial
          clear hK K
          (try simp only [Act.put, List.setIfInBounds_toArray, List.set_cons_zero, List.set_cons_succ])
          have cv1 := BS.out w1 w.heap.size (K1.get (show (w.alloc (.cells #[.int .u8 ((48 : Int) + (r : Int))] 5)).drew.heap[w.heap.size]? = _ from alloc_new w _) (fun z => z))
          refine wpAnyH_ready (rs := [8]) (by kernel_rfl) (by simp) ?_
          refine (AllReadyH.cons (o := { dst := some 24, op := Go.Op.convert 35 9 (Go.Operand.tmp 23), type := 9, pos := "law.go:223", after := #[{ on := 7, ground := Go.Ground.data }], guard := none }) rfl (fun K hK => ?_) AllReadyH.nil)
          go_simp
          refine hK.out _ _ ?_ (fun hHeld => ?_)
          · exact trivial
          clear hK K
          (try simp only [Act.put, List.setIfInBounds_toArray, List.set_cons_zero, List.set_cons_succ])
          refine wpAnyH_take (i := 9) (oi := { dst := some 25, op := Go.Op.binOp Go.BinOp.add 9 (Go.Operand.tmp 18) (Go.Operand.tmp 24) 9, type := 9, pos := "law.go:223", after := #[{ on := 2, ground := Go.Ground.data }, { on := 8, ground := Go.Ground.data }], guard := none }) (v := .string TT) rfl (by kernel_rfl) (by kernel_rfl) (by kernel_rfl) (fun _ _ _ h => h) (Or.inl ⟨by rfl, ?_⟩) (by assumption) ?_
          · intro w9 hSw
            (try dsimp only at hSw)
            go_simp
          (try simp only [Act.put, List.setIfInBounds_toArray, List.set_cons_zero, List.set_cons_succ])
          refine wpAnyH_take (i := 10) (oi := { dst := some 2, op := Go.Op.assign (Go.Operand.tmp 25), type := 9, pos := "law.go:223", after := #[{ on := 9, ground := Go.Ground.data }, { on := 2, ground := Go.Ground.chain }, { on := 0, ground := Go.Ground.phase }, { on := 1, ground := Go.Ground.phase }, { on := 2, ground := Go.Ground.phase }, { on := 3, ground := Go.Ground.phase }, { on := 4, ground := Go.Ground.phase }, { on := 5, ground := Go.Ground.phase }, { on := 6, ground := Go.Ground.phase }, { on := 7, ground := Go.Ground.phase }, { on := 8, ground := Go.Ground.phase }, { on := 9, ground := Go.Ground.phase }], guard := none }) (v := .string TT) rfl (by kernel_rfl) (by kernel_rfl) (by kernel_rfl) (fun _ _ _ h => h) (Or.inl ⟨by rfl, ?_⟩) (by assumption) ?_
          · intro w9 hSw
            (try dsimp only at hSw)
            go_simp
          (try simp only [Act.put, List.setIfInBounds_toArray, List.set_cons_zero, List.set_cons_succ])
          refine wpAnyH_done (by kernel_rfl) ?_ _
          have F : Hid (Kept (fun _ => False) w w1) := (((Kept.refl (fun _ => False) w).alloc _).drew).trans K1 (fun _ _ z => z)
          go_wp2_with fail
          go_ret
          exact ⟨by first | rfl | simp, F.out⟩
        · go_simp
          refine hK.out _ _ ?_ (fun hHeld => ?_)
          · exact trivial
          clear hK K
          (try simp only [Act.put, List.setIfInBounds_toArray, List.set_cons_zero, List.set_cons_succ])
          refine wpAnyH_ready (rs := [2]) (by kernel_rfl) (by simp) ?_
          refine (AllReadyH.cons (o := { dst := some 18, op := Go.Op.call { callee := Go.Callee.value (Go.Operand.func 8), args := #[Go.Operand.tmp 17], argTypes := #[3] }, type := 9, pos := "law.go:223", after := #[{ on := 1, ground := Go.Ground.data }], guard := none }) rfl (fun K hK => ?_) AllReadyH.nil)
          go_simp
          refine (CD.out _).mono ?_
          rintro x w1 ⟨rfl, K1⟩
          refine hK.out _ _ ?_ (fun hHeld => ?_)
          · exact trivial
          clear hK K
          (try simp only [Act.put, List.setIfInBounds_toArray, List.set_cons_zero, List.set_cons_succ])
          refine wpAnyH_take (i := 9) (oi := { dst := some 25, op := Go.Op.binOp Go.BinOp.add 9 (Go.Operand.tmp 18) (Go.Operand.tmp 24) 9, type := 9, pos := "law.go:223", after := #[{ on := 2, ground := Go.Ground.data }, { on := 8, ground := Go.Ground.data }], guard := none }) (v := .string TT) rfl (by kernel_rfl) (by kernel_rfl) (by kernel_rfl) (fun _ _ _ h => h) (Or.inl ⟨by rfl, ?_⟩) (by assumption) ?_
          · intro w9 hSw
            (try dsimp only at hSw)
            go_simp
          (try simp only [Act.put, List.setIfInBounds_toArray, List.set_cons_zero, List.set_cons_succ])
          refine wpAnyH_take (i := 10) (oi := { dst := some 2, op := Go.Op.assign (Go.Operand.tmp 25), type := 9, pos := "law.go:223", after := #[{ on := 9, ground := Go.Ground.data }, { on := 2, ground := Go.Ground.chain }, { on := 0, ground := Go.Ground.phase }, { on := 1, ground := Go.Ground.phase }, { on := 2, ground := Go.Ground.phase }, { on := 3, ground := Go.Ground.phase }, { on := 4, ground := Go.Ground.phase }, { on := 5, ground := Go.Ground.phase }, { on := 6, ground := Go.Ground.phase }, { on := 7, ground := Go.Ground.phase }, { on := 8, ground := Go.Ground.phase }, { on := 9, ground := Go.Ground.phase }], guard := none }) (v := .string TT) rfl (by kernel_rfl) (by kernel_rfl) (by kernel_rfl) (fun _ _ _ h => h) (Or.inl ⟨by rfl, ?_⟩) (by assumption) ?_
          · intro w9 hSw
            (try dsimp only at hSw)
            go_simp
          (try simp only [Act.put, List.setIfInBounds_toArray, List.set_cons_zero, List.set_cons_succ])
          refine wpAnyH_done (by kernel_rfl) ?_ _
          have F : Hid (Kept (fun _ => False) w w1) := (((Kept.refl (fun _ => False) w).alloc _).drew).trans K1 (fun _ _ z => z)
          go_wp2_with fail
          go_ret
          exact ⟨by first | rfl | simp, F.out⟩
theorem hDec (n : Int) (h1 : -1000000 ≤ n) (h2 : n ≤ 1000000) (w : World) : Calls Tryd.prog 8 #[.int .i64 n] w fun o w' => o = .returned (.string (ofL (Lib.itoa n))) ∧ Kept (fun _ => False) w w' := by
  unfold Lib.itoa
  by_cases h : n < 0
  · rw [if_pos h]
    obtain ⟨u, hu⟩ : ∃ u, u = n.natAbs := ⟨_, rfl⟩
    have e : -n = (u : Int) := by omega
    have wn : IntKind.i64.wrap (-n) = (u : Int) := by rw [IntKind.wrap_i64]; omega
    have C : Hid (∀ V : World, Calls Tryd.prog 8 #[.int .i64 (u : Int)] V fun o w' => o = .returned (.string (ofL (Lib.decDigits u))) ∧ Kept (fun _ => False) V w') := fun V => hDecN (u + 1) u (by omega) (by omega) V
    rw [← hu]
    obtain ⟨TD, hTD⟩ : ∃ TD, TD = ofL (Lib.decDigits u) := ⟨_, rfl⟩
    obtain ⟨TT, hTT⟩ : ∃ TT, TT = ofL (45 :: Lib.decDigits u) := ⟨_, rfl⟩
    have hcat : (⟨#[45]⟩ : ByteArray) ++ TD = TT := by
      rw [hTD, hTT]
      exact ofL_append [45] _
    have hcs : ¬ 9223372036854775807 < 1 + TD.size := by
      have e1 : TD.size = (Lib.decDigits u).length := by rw [hTD]; simp [ofL, ByteArray.size]
      have := dec_len u (by omega)
      omega
    have hcs2 : ¬ 9223372036854775807 < (⟨#[45]⟩ : ByteArray).size + TD.size := hcs
    rw [← hTT]
    rw [← hTD] at C
    clear hu hTD hTT
    go_enter Tryd.func8, Tryd.ntmps8
    go_wp2_with fail
    refine (C.out _).mono ?_
    rintro o w1 ⟨rfl, K1⟩
    have F : Hid (Kept (fun _ => False) w w1) := K1
    clear K1 C
    go_wp2_with fail
    go_ret
    exact ⟨by first | rfl | simp, F.out⟩
  · rw [if_neg h]
    have q := hDecN (n.toNat + 1) n.toNat (by omega) (by omega) w
    rw [show ((n.toNat : Nat) : Int) = n by omega] at q
    exact q
/-- quorum.Check. -/
def ckE (n k d : Int) : Int := if k < 1 ∨ n < k ∨ 255 < n ∨ d < 0 ∨ 4611686018427387903 < d then 40 else 0
theorem hQ (n k d : Int) (w : World) : Calls Tryd.prog 10 #[.agg #[.int .i64 n, .int .i64 k, .int .i64 d]] w fun o w' => o = .returned (.int .i64 (ckE n k d)) ∧ Kept (fun _ => False) w w' := by
  obtain ⟨v, hv⟩ : ∃ v, v = ckE n k d := ⟨_, rfl⟩
  have HV : Hid (v = ckE n k d) := hv
  rw [← hv]
  clear hv
  unfold ckE at HV
  have K : Hid (Kept (fun _ => False) w (w.alloc (.cells #[.int .i64 n, .int .i64 k, .int .i64 d] 23))) := (Kept.refl _ _).alloc _
  go_enter Tryd.func10, Tryd.ntmps10
  by_cases h1 : k < 1
  · have e : v = 40 := by rw [HV.out, if_pos (.inl h1)]
    subst e
    clear HV
    go_wp2_with fail
    go_ret
    exact ⟨by first | rfl | simp, K.out⟩
  · by_cases h2 : n < k
    · have e : v = 40 := by rw [HV.out, if_pos (.inr (.inl h2))]
      subst e
      clear HV
      go_wp2_with fail
      go_ret
      exact ⟨by first | rfl | simp, K.out⟩
    · by_cases h3 : 255 < n
      · have e : v = 40 := by rw [HV.out, if_pos (.inr (.inr (.inl h3)))]
        subst e
        clear HV
        go_wp2_with fail
        go_ret
        exact ⟨by first | rfl | simp, K.out⟩
      · by_cases h4 : d < 0
        · have e : v = 40 := by rw [HV.out, if_pos (.inr (.inr (.inr (.inl h4))))]
          subst e
          clear HV
          go_wp2_with fail
          go_ret
          exact ⟨by first | rfl | simp, K.out⟩
        · by_cases h5 : 4611686018427387903 < d
          · have e : v = 40 := by rw [HV.out, if_pos (.inr (.inr (.inr (.inr h5))))]
            subst e
            clear HV
            go_wp2_with fail
            go_ret
            exact ⟨by first | rfl | simp, K.out⟩
          · have e : v = 0 := by rw [HV.out, if_neg (by omega)]
            subst e
            clear HV
            go_wp2_with fail
            go_ret
            exact ⟨by first | rfl | simp, K.out⟩
end Go.Proofs.YtonfefhegghapaaDoor
