import Derived.Test.YtonfefhegghapaaDoorACpJ
import Derived.Deep.RegionHeldLaw
namespace Go.Proofs.YtonfefhegghapaaDoor
open Go.RowKit 

theorem ck_two (n k d : Int) : ckE n k d = 0 ∨ ckE n k d = 40 := by
  unfold ckE
  split
  · exact .inr rfl
  · exact .inl rfl
/-- What Config tells of a config's line. -/
theorem cfA_line {n k d c N K D C e : Int} (h : CfA (ofL (cfgL n k d c)) N K D C e) (h1 : M6 n) (h2 : M6 k) (h3 : M6 d) (h4 : M6 c) : (ckE n k d = 40 ∧ N = 0 ∧ K = 0 ∧ D = 0 ∧ C = 0 ∧ e = 40) ∨ (ckE n k d = 0 ∧ (c < 0 ∨ 255 < c) ∧ N = 0 ∧ K = 0 ∧ D = 0 ∧ C = 0 ∧ e = 1) ∨ (ckE n k d = 0 ∧ 0 ≤ c ∧ c ≤ 255 ∧ N = n ∧ K = k ∧ D = d ∧ C = c ∧ e = 0) := by
  obtain ⟨n', k', d', c', q, h⟩ := h
  obtain ⟨rfl, rfl, rfl, rfl⟩ := q.exact (ofL_list _) h1 h2 h3 h4
  rcases h with ⟨z, _⟩ | ⟨_, z, r⟩ | ⟨_, z, r⟩ | ⟨_, z, r1, r2, r⟩
  · exact absurd (ofL_list _) z
  · rcases ck_two n' k' d' with w | w
    · exact absurd w z
    · refine .inl ⟨w, r.1, r.2.1, r.2.2.1, r.2.2.2.1, ?_⟩
      rw [r.2.2.2.2, w]
  · exact .inr (.inl ⟨z, r⟩)
  · exact .inr (.inr ⟨z, r1, r2, r⟩)
theorem cfA_const {N K D C e : Int} (h : CfA ⟨#[99, 111, 110, 102, 105, 103, 32, 51, 32, 49, 32, 48, 32, 50]⟩ N K D C e) : N = 3 ∧ K = 1 ∧ D = 0 ∧ C = 2 ∧ e = 0 := by
  have e0 : (⟨#[99, 111, 110, 102, 105, 103, 32, 51, 32, 49, 32, 48, 32, 50]⟩ : ByteArray) = ofL (cfgL 3 1 0 2) := by
    have d3 : Lib.itoa 3 = [51] := by show Lib.decDigits 3 = _; rw [Lib.decDigits_one (by omega)]; rfl
    have d1 : Lib.itoa 1 = [49] := by show Lib.decDigits 1 = _; rw [Lib.decDigits_one (by omega)]; rfl
    have d0 : Lib.itoa 0 = [48] := by show Lib.decDigits 0 = _; rw [Lib.decDigits_one (by omega)]; rfl
    have d2 : Lib.itoa 2 = [50] := by show Lib.decDigits 2 = _; rw [Lib.decDigits_one (by omega)]; rfl
    rw [cfg_eq, d3, d1, d0, d2]
    rfl
  rw [e0] at h
  have ck : ckE 3 1 0 = 0 := by decide
  rcases cfA_line h ⟨by omega, by omega⟩ ⟨by omega, by omega⟩ ⟨by omega, by omega⟩ ⟨by omega, by omega⟩ with ⟨z, _⟩ | ⟨_, z, _⟩ | ⟨_, _, _, r⟩
  · rw [ck] at z
    cases z
  · omega
  · exact r
theorem cfA_behind {l x : List UInt8} {N K D C e : Int} (h : CfA (ofL (l ++ x)) N K D C e) (h0 : x ≠ []) (hx : ∀ c ∈ x, ¬ Digit c) : e = 82 := by
  obtain ⟨n', k', d', c', q, h⟩ := h
  rcases h with ⟨_, r⟩ | ⟨z, _⟩ | ⟨z, _⟩ | ⟨z, _⟩
  · exact r.2.2.2.2
  · exact absurd z (cfg_behind h0 hx _ _ _ _)
  · exact absurd z (cfg_behind h0 hx _ _ _ _)
  · exact absurd z (cfg_behind h0 hx _ _ _ _)
theorem ofL_size (l : List UInt8) : (ofL l).size = l.length := by simp [ofL, ByteArray.size]
theorem itoa_len {n : Int} (h : M6 n) : (Lib.itoa n).length ≤ 21 := Lib.itoa_length_le n (by have := h.1; omega) (by have := h.2; omega)
theorem tmod_m6 (a : Int) : M6 (Int.tmod a 1000000) := by
  have h1 := Int.tmod_lt_of_pos a (show (0 : Int) < 1000000 by omega)
  have h2 : -1000000 < Int.tmod a 1000000 := by
    have := Int.tmod_lt_of_pos (-a) (show (0 : Int) < 1000000 by omega)
    rw [Int.neg_tmod] at this
    omega
  exact ⟨by omega, by omega⟩
set_option maxRecDepth 100000 in
set_option maxHeartbeats 4000000 in
theorem hLaw (n0 k0 d0 c0 : Int) (b : ByteArray) (w : World) (hb : b.size ≤ 140737488355328) (V : Vars w) : Calls Tryd.prog 3 #[.agg #[.int .i64 n0, .int .i64 k0, .int .i64 d0], .int .i64 c0, .string b] w fun o w' => o = .returned (.bool true) ∧ Kept (fun _ => False) w w' := by
  obtain ⟨n, hn⟩ : ∃ n, Int.tmod n0 1000000 = n := ⟨_, rfl⟩
  obtain ⟨k, hk⟩ : ∃ k, Int.tmod k0 1000000 = k := ⟨_, rfl⟩
  obtain ⟨d, hd⟩ : ∃ d, Int.tmod d0 1000000 = d := ⟨_, rfl⟩
  obtain ⟨c, hc⟩ : ∃ c, Int.tmod c0 1000000 = c := ⟨_, rfl⟩
  have m1 := tmod_m6 n0
  have m2 := tmod_m6 k0
  have m3 := tmod_m6 d0
  have m4 := tmod_m6 c0
  rw [hn] at m1
  rw [hk] at m2
  rw [hd] at m3
  rw [hc] at m4
  have M : Hid (M6 n ∧ M6 k ∧ M6 d ∧ M6 c) := ⟨m1, m2, m3, m4⟩
  have wn : IntKind.i64.wrap n = n := by rw [IntKind.wrap_i64]; have := m1.1; have := m1.2; omega
  have wk : IntKind.i64.wrap k = k := by rw [IntKind.wrap_i64]; have := m2.1; have := m2.2; omega
  have wd : IntKind.i64.wrap d = d := by rw [IntKind.wrap_i64]; have := m3.1; have := m3.2; omega
  have wc : IntKind.i64.wrap c = c := by rw [IntKind.wrap_i64]; have := m4.1; have := m4.2; omega
  clear m1 m2 m3 m4
  have VV : Hid (Vars w) := V
  have HB : Hid (b.size ≤ 140737488355328) := hb
  obtain ⟨W, hW⟩ : ∃ W, W = w.alloc (.cells #[.int .i64 n, .int .i64 k, .int .i64 d] 23) := ⟨_, rfl⟩
  obtain ⟨B, hB⟩ : ∃ B, w.heap.size = B := ⟨_, rfl⟩
  have J : Hid (W.heap[B]? = some (.cells #[.int .i64 n, .int .i64 k, .int .i64 d] 23 (0, 0)) ∧ Kept (fun _ => False) w W) := by
    rw [hW, ← hB]
    exact ⟨alloc_new _ _, (Kept.refl _ _).alloc _⟩
  clear V
  go_enter Tryd.func3, Tryd.ntmps3
  go_upto_region 5 with fail
  rw [← hW]
  clear hW hB wn wk wd wc hn hk hd hc
  obtain ⟨TN, hTN⟩ : ∃ T, T = ofL (Lib.itoa n) := ⟨_, rfl⟩
  obtain ⟨TK, hTK⟩ : ∃ T, T = ofL (Lib.itoa k) := ⟨_, rfl⟩
  obtain ⟨TD, hTD⟩ : ∃ T, T = ofL (Lib.itoa d) := ⟨_, rfl⟩
  obtain ⟨TC, hTC⟩ : ∃ T, T = ofL (Lib.itoa c) := ⟨_, rfl⟩
  have l1 : TN.size ≤ 21 := by rw [hTN, ofL_size]; exact itoa_len M.out.1
  have l2 : TK.size ≤ 21 := by rw [hTK, ofL_size]; exact itoa_len M.out.2.1
  have l3 : TD.size ≤ 21 := by rw [hTD, ofL_size]; exact itoa_len M.out.2.2.1
  have l4 : TC.size ≤ 21 := by rw [hTC, ofL_size]; exact itoa_len M.out.2.2.2
  obtain ⟨X1, hX1⟩ : ∃ T, (⟨#[99, 111, 110, 102, 105, 103, 32]⟩ : ByteArray) ++ TN = T := ⟨_, rfl⟩
  have zX1 : X1.size ≤ 28 := by rw [← hX1, ByteArray.size_append]; show 7 + TN.size ≤ 28; omega
  have gX1 : ¬ 9223372036854775807 < 7 + TN.size := by omega
  have fX1 : ¬ 9223372036854775807 < (⟨#[99, 111, 110, 102, 105, 103, 32]⟩ : ByteArray).size + TN.size := gX1
  obtain ⟨X2, hX2⟩ : ∃ T, X1 ++ (⟨#[32]⟩ : ByteArray) = T := ⟨_, rfl⟩
  have zX2 : X2.size ≤ 29 := by rw [← hX2, ByteArray.size_append]; show X1.size + 1 ≤ 29; omega
  have gX2 : ¬ 9223372036854775807 < X1.size + 1 := by omega
  have fX2 : ¬ 9223372036854775807 < X1.size + (⟨#[32]⟩ : ByteArray).size := gX2
  obtain ⟨X3, hX3⟩ : ∃ T, X2 ++ TK = T := ⟨_, rfl⟩
  have zX3 : X3.size ≤ 50 := by rw [← hX3, ByteArray.size_append]; show X2.size + TK.size ≤ 50; omega
  have gX3 : ¬ 9223372036854775807 < X2.size + TK.size := by omega
  have fX3 : ¬ 9223372036854775807 < X2.size + TK.size := gX3
  obtain ⟨X4, hX4⟩ : ∃ T, X3 ++ (⟨#[32]⟩ : ByteArray) = T := ⟨_, rfl⟩
  have zX4 : X4.size ≤ 51 := by rw [← hX4, ByteArray.size_append]; show X3.size + 1 ≤ 51; omega
  have gX4 : ¬ 9223372036854775807 < X3.size + 1 := by omega
  have fX4 : ¬ 9223372036854775807 < X3.size + (⟨#[32]⟩ : ByteArray).size := gX4
  obtain ⟨X5, hX5⟩ : ∃ T, X4 ++ TD = T := ⟨_, rfl⟩
  have zX5 : X5.size ≤ 72 := by rw [← hX5, ByteArray.size_append]; show X4.size + TD.size ≤ 72; omega
  have gX5 : ¬ 9223372036854775807 < X4.size + TD.size := by omega
  have fX5 : ¬ 9223372036854775807 < X4.size + TD.size := gX5
  obtain ⟨X6, hX6⟩ : ∃ T, X5 ++ (⟨#[32]⟩ : ByteArray) = T := ⟨_, rfl⟩
  have zX6 : X6.size ≤ 73 := by rw [← hX6, ByteArray.size_append]; show X5.size + 1 ≤ 73; omega
  have gX6 : ¬ 9223372036854775807 < X5.size + 1 := by omega
  have fX6 : ¬ 9223372036854775807 < X5.size + (⟨#[32]⟩ : ByteArray).size := gX6
  obtain ⟨X7, hX7⟩ : ∃ T, X6 ++ TC = T := ⟨_, rfl⟩
  have zX7 : X7.size ≤ 94 := by rw [← hX7, ByteArray.size_append]; show X6.size + TC.size ≤ 94; omega
  have gX7 : ¬ 9223372036854775807 < X6.size + TC.size := by omega
  have fX7 : ¬ 9223372036854775807 < X6.size + TC.size := gX7
  have HL : Hid (X7 = ofL (cfgL n k d c)) := by
    rw [← hX7, ← hX6, ← hX5, ← hX4, ← hX3, ← hX2, ← hX1, hTN, hTK, hTD, hTC, cfg_eq]
    apply ByteArray.ext
    apply Array.toList_inj.1
    simp [ofL]
  have hX7s : Hid (X7.size ≤ 94) := zX7
  have cD1 : Hid (∀ V, Calls Tryd.prog 8 #[.int .i64 n] V fun o w' => o = .returned (.string TN) ∧ Kept (fun _ => False) V w') := fun V => by rw [hTN]; exact hDec n M.out.1.1 M.out.1.2 V
  have cD2 : Hid (∀ V, Calls Tryd.prog 8 #[.int .i64 k] V fun o w' => o = .returned (.string TK) ∧ Kept (fun _ => False) V w') := fun V => by rw [hTK]; exact hDec k M.out.2.1.1 M.out.2.1.2 V
  have cD3 : Hid (∀ V, Calls Tryd.prog 8 #[.int .i64 d] V fun o w' => o = .returned (.string TD) ∧ Kept (fun _ => False) V w') := fun V => by rw [hTD]; exact hDec d M.out.2.2.1.1 M.out.2.2.1.2 V
  have cD4 : Hid (∀ V, Calls Tryd.prog 8 #[.int .i64 c] V fun o w' => o = .returned (.string TC) ∧ Kept (fun _ => False) V w') := fun V => by rw [hTC]; exact hDec c M.out.2.2.2.1 M.out.2.2.2.2 V
  clear hTN hTK hTD hTC
  have SV : Hid (∀ U, Kept (fun _ => False) W U → U.cell? ⟨B, 0, none⟩ = some (.int .i64 n) ∧ U.cell? ⟨B, 1, none⟩ = some (.int .i64 k) ∧ U.cell? ⟨B, 2, none⟩ = some (.int .i64 d)) := fun U KU => by
    have z := KU.get J.out.1 (fun z => z)
    exact ⟨cell_blk z 0 rfl, cell_blk z 1 rfl, cell_blk z 2 rfl⟩
  refine wp_region_held_drew (S := (fun V => V.cell? ⟨B, 0, none⟩ = some (.int .i64 n) ∧ V.cell? ⟨B, 1, none⟩ = some (.int .i64 k) ∧ V.cell? ⟨B, 2, none⟩ = some (.int .i64 d))) (by kernel_rfl) ?_ (fun hHeld => ?_)
  · exact SV.out W.drew (Kept.refl _ _).drew
  refine wpAnyH_take (i := 0) (oi := { dst := some 29, op := Go.Op.fieldAddr 23 (Go.Operand.tmp 3) 0, type := 0, pos := "law.go:232", after := #[], guard := none }) (v := .pointer (some ⟨B, 0, none⟩)) rfl (by kernel_rfl) (by kernel_rfl) (by kernel_rfl) (fun _ _ _ h => h) (Or.inl ⟨by rfl, ?_⟩) (by assumption) ?_
  · intro w9 hSw
    (try dsimp only at hSw)
    go_simp
  (try simp only [Act.put, List.setIfInBounds_toArray, List.set_cons_zero, List.set_cons_succ])
  refine wpAnyH_take (i := 1) (oi := { dst := some 30, op := Go.Op.load 3 (Go.Operand.tmp 29), type := 3, pos := "law.go:232", after := #[{ on := 0, ground := Go.Ground.data }], guard := none }) (v := .int .i64 n) rfl (by kernel_rfl) (by kernel_rfl) (by kernel_rfl) (fun _ _ _ h => h) (Or.inl ⟨by rfl, ?_⟩) (by assumption) ?_
  · intro w9 hSw
    (try dsimp only at hSw)
    go_simp
  (try simp only [Act.put, List.setIfInBounds_toArray, List.set_cons_zero, List.set_cons_succ])
  refine wpAnyH_take (i := 5) (oi := { dst := some 34, op := Go.Op.fieldAddr 23 (Go.Operand.tmp 3) 1, type := 0, pos := "law.go:232", after := #[], guard := none }) (v := .pointer (some ⟨B, 1, none⟩)) rfl (by kernel_rfl) (by kernel_rfl) (by kernel_rfl) (fun _ _ _ h => h) (Or.inl ⟨by rfl, ?_⟩) (by assumption) ?_
  · intro w9 hSw
    (try dsimp only at hSw)
    go_simp
  (try simp only [Act.put, List.setIfInBounds_toArray, List.set_cons_zero, List.set_cons_succ])
  refine wpAnyH_take (i := 6) (oi := { dst := some 35, op := Go.Op.load 3 (Go.Operand.tmp 34), type := 3, pos := "law.go:232", after := #[{ on := 5, ground := Go.Ground.data }], guard := none }) (v := .int .i64 k) rfl (by kernel_rfl) (by kernel_rfl) (by kernel_rfl) (fun _ _ _ h => h) (Or.inl ⟨by rfl, ?_⟩) (by assumption) ?_
  · intro w9 hSw
    (try dsimp only at hSw)
    go_simp
  (try simp only [Act.put, List.setIfInBounds_toArray, List.set_cons_zero, List.set_cons_succ])
  refine wpAnyH_take (i := 10) (oi := { dst := some 39, op := Go.Op.fieldAddr 23 (Go.Operand.tmp 3) 2, type := 0, pos := "law.go:232", after := #[], guard := none }) (v := .pointer (some ⟨B, 2, none⟩)) rfl (by kernel_rfl) (by kernel_rfl) (by kernel_rfl) (fun _ _ _ h => h) (Or.inl ⟨by rfl, ?_⟩) (by assumption) ?_
  · intro w9 hSw
    (try dsimp only at hSw)
    go_simp
  (try simp only [Act.put, List.setIfInBounds_toArray, List.set_cons_zero, List.set_cons_succ])
  refine wpAnyH_take (i := 11) (oi := { dst := some 40, op := Go.Op.load 3 (Go.Operand.tmp 39), type := 3, pos := "law.go:232", after := #[{ on := 10, ground := Go.Ground.data }], guard := none }) (v := .int .i64 d) rfl (by kernel_rfl) (by kernel_rfl) (by kernel_rfl) (fun _ _ _ h => h) (Or.inl ⟨by rfl, ?_⟩) (by assumption) ?_
  · intro w9 hSw
    (try dsimp only at hSw)
    go_simp
  (try simp only [Act.put, List.setIfInBounds_toArray, List.set_cons_zero, List.set_cons_succ])
  refine wpAnyH_take (i := 15) (oi := { dst := some 44, op := Go.Op.move (Go.Operand.tmp 1), type := 3, pos := "law.go:232", after := #[], guard := none }) (v := .int .i64 c) rfl (by kernel_rfl) (by kernel_rfl) (by kernel_rfl) (fun _ _ _ h => h) (Or.inl ⟨by rfl, ?_⟩) (by assumption) ?_
  · intro w9 hSw
    (try dsimp only at hSw)
    go_simp
  (try simp only [Act.put, List.setIfInBounds_toArray, List.set_cons_zero, List.set_cons_succ])
  refine wpAnyH_ready (rs := [2]) (by kernel_rfl) (by simp) ?_
  refine (AllReadyH.cons (o := { dst := some 31, op := Go.Op.call { callee := Go.Callee.value (Go.Operand.func 8), args := #[Go.Operand.tmp 30], argTypes := #[3] }, type := 9, pos := "law.go:232", after := #[{ on := 1, ground := Go.Ground.data }], guard := none }) rfl (fun K hK => ?_) AllReadyH.nil)
  go_simp
  refine (cD1.out _).mono ?_
  rintro o w1 ⟨rfl, kq⟩
  have k1 : Hid (Kept (fun _ => False) W w1) := (Kept.refl (fun _ => False) W).drew.trans kq (fun _ _ z => z)
  clear kq
  refine hK.out _ _ ?_ (fun hHeld => ?_)
  · exact SV.out _ k1.out
  clear hK K
  (try simp only [Act.put, List.setIfInBounds_toArray, List.set_cons_zero, List.set_cons_succ])
  refine wpAnyH_take (i := 3) (oi := { dst := some 32, op := Go.Op.binOp Go.BinOp.add 9 (Go.Operand.const (Go.Value.string { data := #[99, 111, 110, 102, 105, 103, 32] })) (Go.Operand.tmp 31) 9, type := 9, pos := "law.go:232", after := #[{ on := 2, ground := Go.Ground.data }], guard := none }) (v := .string X1) rfl (by kernel_rfl) (by kernel_rfl) (by kernel_rfl) (fun _ _ _ h => h) (Or.inl ⟨by rfl, ?_⟩) (by assumption) ?_
  · intro w9 hSw
    (try dsimp only at hSw)
    go_simp
  (try simp only [Act.put, List.setIfInBounds_toArray, List.set_cons_zero, List.set_cons_succ])
  refine wpAnyH_take (i := 4) (oi := { dst := some 33, op := Go.Op.binOp Go.BinOp.add 9 (Go.Operand.tmp 32) (Go.Operand.const (Go.Value.string { data := #[32] })) 9, type := 9, pos := "law.go:232", after := #[{ on := 3, ground := Go.Ground.data }], guard := none }) (v := .string X2) rfl (by kernel_rfl) (by kernel_rfl) (by kernel_rfl) (fun _ _ _ h => h) (Or.inl ⟨by rfl, ?_⟩) (by assumption) ?_
  · intro w9 hSw
    (try dsimp only at hSw)
    go_simp
  (try simp only [Act.put, List.setIfInBounds_toArray, List.set_cons_zero, List.set_cons_succ])
  refine wpAnyH_ready (rs := [7]) (by kernel_rfl) (by simp) ?_
  refine (AllReadyH.cons (o := { dst := some 36, op := Go.Op.call { callee := Go.Callee.value (Go.Operand.func 8), args := #[Go.Operand.tmp 35], argTypes := #[3] }, type := 9, pos := "law.go:232", after := #[{ on := 6, ground := Go.Ground.data }, { on := 2, ground := Go.Ground.chain }], guard := none }) rfl (fun K hK => ?_) AllReadyH.nil)
  go_simp
  refine (cD2.out _).mono ?_
  rintro o w2 ⟨rfl, kq⟩
  have k2 : Hid (Kept (fun _ => False) W w2) := k1.out.trans kq (fun _ _ z => z)
  clear kq
  refine hK.out _ _ ?_ (fun hHeld => ?_)
  · exact SV.out _ k2.out
  clear hK K
  (try simp only [Act.put, List.setIfInBounds_toArray, List.set_cons_zero, List.set_cons_succ])
  refine wpAnyH_take (i := 8) (oi := { dst := some 37, op := Go.Op.binOp Go.BinOp.add 9 (Go.Operand.tmp 33) (Go.Operand.tmp 36) 9, type := 9, pos := "law.go:232", after := #[{ on := 4, ground := Go.Ground.data }, { on := 7, ground := Go.Ground.data }], guard := none }) (v := .string X3) rfl (by kernel_rfl) (by kernel_rfl) (by kernel_rfl) (fun _ _ _ h => h) (Or.inl ⟨by rfl, ?_⟩) (by assumption) ?_
  · intro w9 hSw
    (try dsimp only at hSw)
    go_simp
  (try simp only [Act.put, List.setIfInBounds_toArray, List.set_cons_zero, List.set_cons_succ])
  refine wpAnyH_take (i := 9) (oi := { dst := some 38, op := Go.Op.binOp Go.BinOp.add 9 (Go.Operand.tmp 37) (Go.Operand.const (Go.Value.string { data := #[32] })) 9, type := 9, pos := "law.go:232", after := #[{ on := 8, ground := Go.Ground.data }], guard := none }) (v := .string X4) rfl (by kernel_rfl) (by kernel_rfl) (by kernel_rfl) (fun _ _ _ h => h) (Or.inl ⟨by rfl, ?_⟩) (by assumption) ?_
  · intro w9 hSw
    (try dsimp only at hSw)
    go_simp
  (try simp only [Act.put, List.setIfInBounds_toArray, List.set_cons_zero, List.set_cons_succ])
  refine wpAnyH_ready (rs := [12]) (by kernel_rfl) (by simp) ?_
  refine (AllReadyH.cons (o := { dst := some 41, op := Go.Op.call { callee := Go.Callee.value (Go.Operand.func 8), args := #[Go.Operand.tmp 40], argTypes := #[3] }, type := 9, pos := "law.go:232", after := #[{ on := 11, ground := Go.Ground.data }, { on := 7, ground := Go.Ground.chain }], guard := none }) rfl (fun K hK => ?_) AllReadyH.nil)
  go_simp
  refine (cD3.out _).mono ?_
  rintro o w3 ⟨rfl, kq⟩
  have k3 : Hid (Kept (fun _ => False) W w3) := k2.out.trans kq (fun _ _ z => z)
  clear kq
  refine hK.out _ _ ?_ (fun hHeld => ?_)
  · exact SV.out _ k3.out
  clear hK K
  (try simp only [Act.put, List.setIfInBounds_toArray, List.set_cons_zero, List.set_cons_succ])
  refine wpAnyH_take (i := 13) (oi := { dst := some 42, op := Go.Op.binOp Go.BinOp.add 9 (Go.Operand.tmp 38) (Go.Operand.tmp 41) 9, type := 9, pos := "law.go:232", after := #[{ on := 9, ground := Go.Ground.data }, { on := 12, ground := Go.Ground.data }], guard := none }) (v := .string X5) rfl (by kernel_rfl) (by kernel_rfl) (by kernel_rfl) (fun _ _ _ h => h) (Or.inl ⟨by rfl, ?_⟩) (by assumption) ?_
  · intro w9 hSw
    (try dsimp only at hSw)
    go_simp
  (try simp only [Act.put, List.setIfInBounds_toArray, List.set_cons_zero, List.set_cons_succ])
  refine wpAnyH_take (i := 14) (oi := { dst := some 43, op := Go.Op.binOp Go.BinOp.add 9 (Go.Operand.tmp 42) (Go.Operand.const (Go.Value.string { data := #[32] })) 9, type := 9, pos := "law.go:232", after := #[{ on := 13, ground := Go.Ground.data }], guard := none }) (v := .string X6) rfl (by kernel_rfl) (by kernel_rfl) (by kernel_rfl) (fun _ _ _ h => h) (Or.inl ⟨by rfl, ?_⟩) (by assumption) ?_
  · intro w9 hSw
    (try dsimp only at hSw)
    go_simp
  (try simp only [Act.put, List.setIfInBounds_toArray, List.set_cons_zero, List.set_cons_succ])
  refine wpAnyH_ready (rs := [16]) (by kernel_rfl) (by simp) ?_
  refine (AllReadyH.cons (o := { dst := some 45, op := Go.Op.call { callee := Go.Callee.value (Go.Operand.func 8), args := #[Go.Operand.tmp 44], argTypes := #[3] }, type := 9, pos := "law.go:232", after := #[{ on := 15, ground := Go.Ground.data }, { on := 12, ground := Go.Ground.chain }], guard := none }) rfl (fun K hK => ?_) AllReadyH.nil)
  go_simp
  refine (cD4.out _).mono ?_
  rintro o w4 ⟨rfl, kq⟩
  have k4 : Hid (Kept (fun _ => False) W w4) := k3.out.trans kq (fun _ _ z => z)
  clear kq
  refine hK.out _ _ ?_ (fun hHeld => ?_)
  · exact SV.out _ k4.out
  clear hK K
  (try simp only [Act.put, List.setIfInBounds_toArray, List.set_cons_zero, List.set_cons_succ])
  refine wpAnyH_take (i := 17) (oi := { dst := some 46, op := Go.Op.binOp Go.BinOp.add 9 (Go.Operand.tmp 43) (Go.Operand.tmp 45) 9, type := 9, pos := "law.go:232", after := #[{ on := 14, ground := Go.Ground.data }, { on := 16, ground := Go.Ground.data }], guard := none }) (v := .string X7) rfl (by kernel_rfl) (by kernel_rfl) (by kernel_rfl) (fun _ _ _ h => h) (Or.inl ⟨by rfl, ?_⟩) (by assumption) ?_
  · intro w9 hSw
    (try dsimp only at hSw)
    go_simp
  (try simp only [Act.put, List.setIfInBounds_toArray, List.set_cons_zero, List.set_cons_succ])
  refine wpAnyH_take (i := 18) (oi := { dst := some 7, op := Go.Op.assign (Go.Operand.tmp 46), type := 9, pos := "law.go:232", after := #[{ on := 17, ground := Go.Ground.data }, { on := 16, ground := Go.Ground.chain }, { on := 0, ground := Go.Ground.phase }, { on := 1, ground := Go.Ground.phase }, { on := 2, ground := Go.Ground.phase }, { on := 3, ground := Go.Ground.phase }, { on := 4, ground := Go.Ground.phase }, { on := 5, ground := Go.Ground.phase }, { on := 6, ground := Go.Ground.phase }, { on := 7, ground := Go.Ground.phase }, { on := 8, ground := Go.Ground.phase }, { on := 9, ground := Go.Ground.phase }, { on := 10, ground := Go.Ground.phase }, { on := 11, ground := Go.Ground.phase }, { on := 12, ground := Go.Ground.phase }, { on := 13, ground := Go.Ground.phase }, { on := 14, ground := Go.Ground.phase }, { on := 15, ground := Go.Ground.phase }, { on := 16, ground := Go.Ground.phase }, { on := 17, ground := Go.Ground.phase }], guard := none }) (v := .string X7) rfl (by kernel_rfl) (by kernel_rfl) (by kernel_rfl) (fun _ _ _ h => h) (Or.inl ⟨by rfl, ?_⟩) (by assumption) ?_
  · intro w9 hSw
    (try dsimp only at hSw)
    go_simp
  (try simp only [Act.put, List.setIfInBounds_toArray, List.set_cons_zero, List.set_cons_succ])
  refine wpAnyH_done (by kernel_rfl) ?_ _
  clear SV cD1 cD2 cD3 cD4 k1 k2 k3 l1 l2 l3 l4 zX1 gX1 fX1 hX1 zX2 gX2 fX2 hX2 zX3 gX3 fX3 hX3 zX4 gX4 fX4 hX4 zX5 gX5 fX5 hX5 zX6 gX6 fX6 hX6 zX7 gX7 fX7 hX7 hHeld
  have S4 : Hid (w4.heap[B]? = some (.cells #[.int .i64 n, .int .i64 k, .int .i64 d] 23 (0, 0)) ∧ Kept (fun _ => False) w w4) := ⟨k4.out.get J.out.1 (fun z => z), J.out.2.trans k4.out (fun _ _ z => z)⟩
  clear k4 J
  have CC : Hid (Calls Tryd.prog 9 #[.string X7] w4 (RetF fun N K D C e w' => CfA X7 N K D C e ∧ Kept (fun _ => False) w4 w')) := hConfig X7 w4 (by have := hX7s.out; omega) (VV.out.kept S4.out.2)
  go_wp2_with fail
  refine CC.out.mono ?_
  rintro o w5 ⟨N, K, D, C, e, rfl, Q', K5⟩
  have Q : Hid ((ckE n k d = 40 ∧ N = 0 ∧ K = 0 ∧ D = 0 ∧ C = 0 ∧ e = 40) ∨ (ckE n k d = 0 ∧ (c < 0 ∨ 255 < c) ∧ N = 0 ∧ K = 0 ∧ D = 0 ∧ C = 0 ∧ e = 1) ∨ (ckE n k d = 0 ∧ 0 ≤ c ∧ c ≤ 255 ∧ N = n ∧ K = k ∧ D = d ∧ C = c ∧ e = 0)) := by
    rw [HL.out] at Q'
    exact cfA_line Q' M.out.1 M.out.2.1 M.out.2.2.1 M.out.2.2.2
  obtain ⟨W6, hW6⟩ : ∃ W6, W6 = w5.alloc (.cells #[.int .i64 N, .int .i64 K, .int .i64 D] 23) := ⟨_, rfl⟩
  obtain ⟨B6, hB6⟩ : ∃ B6, w5.heap.size = B6 := ⟨_, rfl⟩
  have S6 : Hid (W6.heap[B]? = some (.cells #[.int .i64 n, .int .i64 k, .int .i64 d] 23 (0, 0)) ∧ W6.heap[B6]? = some (.cells #[.int .i64 N, .int .i64 K, .int .i64 D] 23 (0, 0)) ∧ Kept (fun _ => False) w W6) := by
    rw [hW6, ← hB6]
    exact ⟨alloc_old _ (K5.get S4.out.1 (fun z => z)), alloc_new _ _, (S4.out.2.trans K5 (fun _ _ z => z)).alloc _⟩
  clear Q' K5 CC S4
  go_upto_region 7 with fail
  rw [← hW6]
  clear hW6 hB6
  have b0 := cell_blk S6.out.1 0 (v := .int .i64 n) rfl
  have b1 := cell_blk S6.out.1 1 (v := .int .i64 k) rfl
  have b2 := cell_blk S6.out.1 2 (v := .int .i64 d) rfl
  obtain ⟨q, hq⟩ : ∃ q, q = ckE n k d := ⟨_, rfl⟩
  have CQ : Hid (Calls Tryd.prog 10 #[.agg #[.int .i64 n, .int .i64 k, .int .i64 d]] W6 fun o w' => o = .returned (.int .i64 q) ∧ Kept (fun _ => False) W6 w') := by rw [hq]; exact hQ n k d W6
  rw [← hq] at Q
  clear hq
  go_wp2_with fail
  refine CQ.out.mono ?_
  rintro o w7 ⟨rfl, K7⟩
  have S7 : Hid (w7.heap[B]? = some (.cells #[.int .i64 n, .int .i64 k, .int .i64 d] 23 (0, 0)) ∧ w7.heap[B6]? = some (.cells #[.int .i64 N, .int .i64 K, .int .i64 D] 23 (0, 0)) ∧ Kept (fun _ => False) w w7) := ⟨K7.get S6.out.1 (fun z => z), K7.get S6.out.2.1 (fun z => z), S6.out.2.2.trans K7 (fun _ _ z => z)⟩
  clear b0 b1 b2 K7 CQ S6
  have a0 := cell_blk S7.out.1 0 (v := .int .i64 n) rfl
  have a1 := cell_blk S7.out.1 1 (v := .int .i64 k) rfl
  have a2 := cell_blk S7.out.1 2 (v := .int .i64 d) rfl
  have b0 := cell_blk S7.out.2.1 0 (v := .int .i64 N) rfl
  have b1 := cell_blk S7.out.2.1 1 (v := .int .i64 K) rfl
  have b2 := cell_blk S7.out.2.1 2 (v := .int .i64 D) rfl
  have KW : Hid (Kept (fun _ => False) w w7) := S7.out.2.2
  rcases Q.out with ⟨rfl, rfl, rfl, rfl, rfl, rfl⟩ | ⟨rfl, hcc, rfl, rfl, rfl, rfl, rfl⟩ | ⟨rfl, hc1, hc2, e1, e2, e3, e4, rfl⟩
  · clear Q
    have CC : Hid (Calls Tryd.prog 9 #[.string ⟨#[99, 111, 110, 102, 105, 103, 32, 51, 32, 49, 32, 48, 32, 50]⟩] w7 (RetF fun N K D C e w' => CfA ⟨#[99, 111, 110, 102, 105, 103, 32, 51, 32, 49, 32, 48, 32, 50]⟩ N K D C e ∧ Kept (fun _ => False) w7 w')) := hConfig _ w7 (by decide) (VV.out.kept KW.out)
    go_wp2_with fail
    refine CC.out.mono ?_
    rintro o w8 ⟨N2, K2, D2, C2, e2, rfl, Q2, K8⟩
    obtain ⟨rfl, rfl, rfl, rfl, rfl⟩ := cfA_const Q2
    have S8 : Hid (Kept (fun _ => False) w (w8.alloc (.cells #[.int .i64 3, .int .i64 1, .int .i64 0] 23))) := (KW.out.trans K8 (fun _ _ z => z)).alloc _
    clear Q2 K8 CC a0 a1 a2 b0 b1 b2 S7 KW
    obtain ⟨W9, hW9⟩ : ∃ W9, W9 = w8.alloc (.cells #[.int .i64 3, .int .i64 1, .int .i64 0] 23) := ⟨_, rfl⟩
    rw [← hW9] at S8
    go_upto_region 18 with fail
    rw [← hW9]
    clear hW9
    go_wp2_with fail
    go_loopw [14] (fun u14 wr => ∃ i : Nat, u14 = .int .i64 (i : Int) ∧ i ≤ b.size ∧ Hid (wr = W9 ∧ ∀ j c, j < i → b.data.toList[j]? = some c → ¬ Digit c)) (fun u14 _ => b.size - (intOf u14).toNat)
    case atStart => exact ⟨0, rfl, Nat.zero_le _, rfl, fun j c hj => absurd hj (by omega)⟩
    case round =>
      obtain ⟨i, rfl, hi, S⟩ := hrel
      have hwr := S.out.1
      subst hwr
      by_cases hlt : i < b.size
      · have i1 : (i : Int) < (b.size : Int) := by omega
        obtain ⟨x, hx⟩ : ∃ x : Nat, (b[i]'hlt).toNat = x := ⟨_, rfl⟩
        have XI : Hid (b.data.toList[i]? = some (b[i]'hlt) ∧ (b[i]'hlt).toNat = x) := ⟨get_list b i hlt, hx⟩
        by_cases h1 : 48 ≤ x
        · have h1i : (48 : Int) ≤ (x : Int) := by omega
          by_cases h2 : x ≤ 57
          · have h2i : (x : Int) ≤ 57 := by omega
            clear S XI
            go_wp2_with fail
            go_ret
            exact ⟨by first | rfl | simp, S8.out⟩
          · have h2i : ¬ (x : Int) ≤ 57 := by omega
            have NX : Hid (wr = wr ∧ ∀ j c, j < i + 1 → b.data.toList[j]? = some c → ¬ Digit c) := ⟨rfl, fun j c hj hc => by
              by_cases e : j < i
              · exact S.out.2 j c e hc
              · have : j = i := by omega
                subst this
                rw [XI.out.1] at hc
                rw [← Option.some.inj hc]
                unfold Digit
                rw [XI.out.2]
                omega⟩
            clear S XI
            go_wp2_with fail
            go_roundw
            case rel => exact ⟨i + 1, by go_num, by omega, ⟨by first | exact trivial | rfl, NX.out.2⟩⟩
            case measure => simp [intOf] <;> omega
        · have h1i : ¬ (48 : Int) ≤ (x : Int) := by omega
          have NX : Hid (wr = wr ∧ ∀ j c, j < i + 1 → b.data.toList[j]? = some c → ¬ Digit c) := ⟨rfl, fun j c hj hc => by
            by_cases e : j < i
            · exact S.out.2 j c e hc
            · have : j = i := by omega
              subst this
              rw [XI.out.1] at hc
              rw [← Option.some.inj hc]
              unfold Digit
              rw [XI.out.2]
              omega⟩
          clear S XI
          go_wp2_with fail
          go_roundw
          case rel => exact ⟨i + 1, by go_num, by omega, ⟨by first | exact trivial | rfl, NX.out.2⟩⟩
          case measure => simp [intOf] <;> omega
      · have i1 : ¬ (i : Int) < (b.size : Int) := by omega
        have ND : Hid (∀ c ∈ b.data.toList, ¬ Digit c) := fun c hc => by
          obtain ⟨j, hj⟩ := List.getElem?_of_mem hc
          have jl := (List.getElem?_eq_some_iff.1 hj).1
          rw [Array.length_toList] at jl
          exact S.out.2 j c (by have : j < b.size := jl; omega) hj
        clear S
        obtain ⟨XB, hXB⟩ : ∃ T, X7 ++ b = T := ⟨_, rfl⟩
        have gXB : ¬ 9223372036854775807 < X7.size + b.size := by have := hX7s.out; have := HB.out; omega
        have XBQ : Hid (XB = ofL (cfgL n k d c ++ b.data.toList) ∧ XB.size ≤ 281474976710656) := by
          rw [← hXB]
          refine ⟨?_, by rw [ByteArray.size_append]; have := hX7s.out; have := HB.out; omega⟩
          rw [HL.out]
          apply ByteArray.ext
          apply Array.toList_inj.1
          simp [ofL]
        have CC : Hid (Calls Tryd.prog 9 #[.string XB] wr (RetF fun N K D C e w' => CfA XB N K D C e ∧ Kept (fun _ => False) wr w')) := hConfig XB wr XBQ.out.2 (VV.out.kept S8.out)
        go_wp2_with fail
        refine CC.out.mono ?_
        rintro o w10 ⟨N3, K3, D3, C3, e3, rfl, Q3, K10⟩
        have F : Hid (Kept (fun _ => False) w w10) := S8.out.trans K10 (fun _ _ z => z)
        by_cases hbe : b.data.toList = []
        · have be : b.toList.isEmpty = true := by rw [Go.ByteArray.toList_eq, hbe]; rfl
          clear Q3 K10 CC XBQ hbe
          go_wp2_with fail
          go_ret
          exact ⟨by first | rfl | simp, F.out⟩
        · have be : b.toList.isEmpty = false := by
            rw [Go.ByteArray.toList_eq]
            cases hz : b.data.toList with
            | nil => exact absurd hz hbe
            | cons x r => rfl
          have e82 : e3 = 82 := by
            rw [XBQ.out.1] at Q3
            exact cfA_behind Q3 hbe ND.out
          subst e82
          clear Q3 K10 CC XBQ hbe
          go_wp2_with fail
          go_ret
          exact ⟨by first | rfl | simp, F.out⟩
  · by_cases hc1 : c < 0
    · clear Q hcc
      have CC : Hid (Calls Tryd.prog 9 #[.string ⟨#[99, 111, 110, 102, 105, 103, 32, 51, 32, 49, 32, 48, 32, 50]⟩] w7 (RetF fun N K D C e w' => CfA ⟨#[99, 111, 110, 102, 105, 103, 32, 51, 32, 49, 32, 48, 32, 50]⟩ N K D C e ∧ Kept (fun _ => False) w7 w')) := hConfig _ w7 (by decide) (VV.out.kept KW.out)
      go_wp2_with fail
      refine CC.out.mono ?_
      rintro o w8 ⟨N2, K2, D2, C2, e2, rfl, Q2, K8⟩
      obtain ⟨rfl, rfl, rfl, rfl, rfl⟩ := cfA_const Q2
      have S8 : Hid (Kept (fun _ => False) w (w8.alloc (.cells #[.int .i64 3, .int .i64 1, .int .i64 0] 23))) := (KW.out.trans K8 (fun _ _ z => z)).alloc _
      clear Q2 K8 CC a0 a1 a2 b0 b1 b2 S7 KW
      obtain ⟨W9, hW9⟩ : ∃ W9, W9 = w8.alloc (.cells #[.int .i64 3, .int .i64 1, .int .i64 0] 23) := ⟨_, rfl⟩
      rw [← hW9] at S8
      go_upto_region 18 with fail
      rw [← hW9]
      clear hW9
      go_wp2_with fail
      go_loopw [14] (fun u14 wr => ∃ i : Nat, u14 = .int .i64 (i : Int) ∧ i ≤ b.size ∧ Hid (wr = W9 ∧ ∀ j c, j < i → b.data.toList[j]? = some c → ¬ Digit c)) (fun u14 _ => b.size - (intOf u14).toNat)
      case atStart => exact ⟨0, rfl, Nat.zero_le _, rfl, fun j c hj => absurd hj (by omega)⟩
      case round =>
        obtain ⟨i, rfl, hi, S⟩ := hrel
        have hwr := S.out.1
        subst hwr
        by_cases hlt : i < b.size
        · have i1 : (i : Int) < (b.size : Int) := by omega
          obtain ⟨x, hx⟩ : ∃ x : Nat, (b[i]'hlt).toNat = x := ⟨_, rfl⟩
          have XI : Hid (b.data.toList[i]? = some (b[i]'hlt) ∧ (b[i]'hlt).toNat = x) := ⟨get_list b i hlt, hx⟩
          by_cases h1 : 48 ≤ x
          · have h1i : (48 : Int) ≤ (x : Int) := by omega
            by_cases h2 : x ≤ 57
            · have h2i : (x : Int) ≤ 57 := by omega
              clear S XI
              go_wp2_with fail
              go_ret
              exact ⟨by first | rfl | simp, S8.out⟩
            · have h2i : ¬ (x : Int) ≤ 57 := by omega
              have NX : Hid (wr = wr ∧ ∀ j c, j < i + 1 → b.data.toList[j]? = some c → ¬ Digit c) := ⟨rfl, fun j c hj hc => by
                by_cases e : j < i
                · exact S.out.2 j c e hc
                · have : j = i := by omega
                  subst this
                  rw [XI.out.1] at hc
                  rw [← Option.some.inj hc]
                  unfold Digit
                  rw [XI.out.2]
                  omega⟩
              clear S XI
              go_wp2_with fail
              go_roundw
              case rel => exact ⟨i + 1, by go_num, by omega, ⟨by first | exact trivial | rfl, NX.out.2⟩⟩
              case measure => simp [intOf] <;> omega
          · have h1i : ¬ (48 : Int) ≤ (x : Int) := by omega
            have NX : Hid (wr = wr ∧ ∀ j c, j < i + 1 → b.data.toList[j]? = some c → ¬ Digit c) := ⟨rfl, fun j c hj hc => by
              by_cases e : j < i
              · exact S.out.2 j c e hc
              · have : j = i := by omega
                subst this
                rw [XI.out.1] at hc
                rw [← Option.some.inj hc]
                unfold Digit
                rw [XI.out.2]
                omega⟩
            clear S XI
            go_wp2_with fail
            go_roundw
            case rel => exact ⟨i + 1, by go_num, by omega, ⟨by first | exact trivial | rfl, NX.out.2⟩⟩
            case measure => simp [intOf] <;> omega
        · have i1 : ¬ (i : Int) < (b.size : Int) := by omega
          have ND : Hid (∀ c ∈ b.data.toList, ¬ Digit c) := fun c hc => by
            obtain ⟨j, hj⟩ := List.getElem?_of_mem hc
            have jl := (List.getElem?_eq_some_iff.1 hj).1
            rw [Array.length_toList] at jl
            exact S.out.2 j c (by have : j < b.size := jl; omega) hj
          clear S
          obtain ⟨XB, hXB⟩ : ∃ T, X7 ++ b = T := ⟨_, rfl⟩
          have gXB : ¬ 9223372036854775807 < X7.size + b.size := by have := hX7s.out; have := HB.out; omega
          have XBQ : Hid (XB = ofL (cfgL n k d c ++ b.data.toList) ∧ XB.size ≤ 281474976710656) := by
            rw [← hXB]
            refine ⟨?_, by rw [ByteArray.size_append]; have := hX7s.out; have := HB.out; omega⟩
            rw [HL.out]
            apply ByteArray.ext
            apply Array.toList_inj.1
            simp [ofL]
          have CC : Hid (Calls Tryd.prog 9 #[.string XB] wr (RetF fun N K D C e w' => CfA XB N K D C e ∧ Kept (fun _ => False) wr w')) := hConfig XB wr XBQ.out.2 (VV.out.kept S8.out)
          go_wp2_with fail
          refine CC.out.mono ?_
          rintro o w10 ⟨N3, K3, D3, C3, e3, rfl, Q3, K10⟩
          have F : Hid (Kept (fun _ => False) w w10) := S8.out.trans K10 (fun _ _ z => z)
          by_cases hbe : b.data.toList = []
          · have be : b.toList.isEmpty = true := by rw [Go.ByteArray.toList_eq, hbe]; rfl
            clear Q3 K10 CC XBQ hbe
            go_wp2_with fail
            go_ret
            exact ⟨by first | rfl | simp, F.out⟩
          · have be : b.toList.isEmpty = false := by
              rw [Go.ByteArray.toList_eq]
              cases hz : b.data.toList with
              | nil => exact absurd hz hbe
              | cons x r => rfl
            have e82 : e3 = 82 := by
              rw [XBQ.out.1] at Q3
              exact cfA_behind Q3 hbe ND.out
            subst e82
            clear Q3 K10 CC XBQ hbe
            go_wp2_with fail
            go_ret
            exact ⟨by first | rfl | simp, F.out⟩
    · have hc2 : 255 < c := by omega
      clear Q hcc
      have CC : Hid (Calls Tryd.prog 9 #[.string ⟨#[99, 111, 110, 102, 105, 103, 32, 51, 32, 49, 32, 48, 32, 50]⟩] w7 (RetF fun N K D C e w' => CfA ⟨#[99, 111, 110, 102, 105, 103, 32, 51, 32, 49, 32, 48, 32, 50]⟩ N K D C e ∧ Kept (fun _ => False) w7 w')) := hConfig _ w7 (by decide) (VV.out.kept KW.out)
      go_wp2_with fail
      refine CC.out.mono ?_
      rintro o w8 ⟨N2, K2, D2, C2, e2, rfl, Q2, K8⟩
      obtain ⟨rfl, rfl, rfl, rfl, rfl⟩ := cfA_const Q2
      have S8 : Hid (Kept (fun _ => False) w (w8.alloc (.cells #[.int .i64 3, .int .i64 1, .int .i64 0] 23))) := (KW.out.trans K8 (fun _ _ z => z)).alloc _
      clear Q2 K8 CC a0 a1 a2 b0 b1 b2 S7 KW
      obtain ⟨W9, hW9⟩ : ∃ W9, W9 = w8.alloc (.cells #[.int .i64 3, .int .i64 1, .int .i64 0] 23) := ⟨_, rfl⟩
      rw [← hW9] at S8
      go_upto_region 18 with fail
      rw [← hW9]
      clear hW9
      go_wp2_with fail
      go_loopw [14] (fun u14 wr => ∃ i : Nat, u14 = .int .i64 (i : Int) ∧ i ≤ b.size ∧ Hid (wr = W9 ∧ ∀ j c, j < i → b.data.toList[j]? = some c → ¬ Digit c)) (fun u14 _ => b.size - (intOf u14).toNat)
      case atStart => exact ⟨0, rfl, Nat.zero_le _, rfl, fun j c hj => absurd hj (by omega)⟩
      case round =>
        obtain ⟨i, rfl, hi, S⟩ := hrel
        have hwr := S.out.1
        subst hwr
        by_cases hlt : i < b.size
        · have i1 : (i : Int) < (b.size : Int) := by omega
          obtain ⟨x, hx⟩ : ∃ x : Nat, (b[i]'hlt).toNat = x := ⟨_, rfl⟩
          have XI : Hid (b.data.toList[i]? = some (b[i]'hlt) ∧ (b[i]'hlt).toNat = x) := ⟨get_list b i hlt, hx⟩
          by_cases h1 : 48 ≤ x
          · have h1i : (48 : Int) ≤ (x : Int) := by omega
            by_cases h2 : x ≤ 57
            · have h2i : (x : Int) ≤ 57 := by omega
              clear S XI
              go_wp2_with fail
              go_ret
              exact ⟨by first | rfl | simp, S8.out⟩
            · have h2i : ¬ (x : Int) ≤ 57 := by omega
              have NX : Hid (wr = wr ∧ ∀ j c, j < i + 1 → b.data.toList[j]? = some c → ¬ Digit c) := ⟨rfl, fun j c hj hc => by
                by_cases e : j < i
                · exact S.out.2 j c e hc
                · have : j = i := by omega
                  subst this
                  rw [XI.out.1] at hc
                  rw [← Option.some.inj hc]
                  unfold Digit
                  rw [XI.out.2]
                  omega⟩
              clear S XI
              go_wp2_with fail
              go_roundw
              case rel => exact ⟨i + 1, by go_num, by omega, ⟨by first | exact trivial | rfl, NX.out.2⟩⟩
              case measure => simp [intOf] <;> omega
          · have h1i : ¬ (48 : Int) ≤ (x : Int) := by omega
            have NX : Hid (wr = wr ∧ ∀ j c, j < i + 1 → b.data.toList[j]? = some c → ¬ Digit c) := ⟨rfl, fun j c hj hc => by
              by_cases e : j < i
              · exact S.out.2 j c e hc
              · have : j = i := by omega
                subst this
                rw [XI.out.1] at hc
                rw [← Option.some.inj hc]
                unfold Digit
                rw [XI.out.2]
                omega⟩
            clear S XI
            go_wp2_with fail
            go_roundw
            case rel => exact ⟨i + 1, by go_num, by omega, ⟨by first | exact trivial | rfl, NX.out.2⟩⟩
            case measure => simp [intOf] <;> omega
        · have i1 : ¬ (i : Int) < (b.size : Int) := by omega
          have ND : Hid (∀ c ∈ b.data.toList, ¬ Digit c) := fun c hc => by
            obtain ⟨j, hj⟩ := List.getElem?_of_mem hc
            have jl := (List.getElem?_eq_some_iff.1 hj).1
            rw [Array.length_toList] at jl
            exact S.out.2 j c (by have : j < b.size := jl; omega) hj
          clear S
          obtain ⟨XB, hXB⟩ : ∃ T, X7 ++ b = T := ⟨_, rfl⟩
          have gXB : ¬ 9223372036854775807 < X7.size + b.size := by have := hX7s.out; have := HB.out; omega
          have XBQ : Hid (XB = ofL (cfgL n k d c ++ b.data.toList) ∧ XB.size ≤ 281474976710656) := by
            rw [← hXB]
            refine ⟨?_, by rw [ByteArray.size_append]; have := hX7s.out; have := HB.out; omega⟩
            rw [HL.out]
            apply ByteArray.ext
            apply Array.toList_inj.1
            simp [ofL]
          have CC : Hid (Calls Tryd.prog 9 #[.string XB] wr (RetF fun N K D C e w' => CfA XB N K D C e ∧ Kept (fun _ => False) wr w')) := hConfig XB wr XBQ.out.2 (VV.out.kept S8.out)
          go_wp2_with fail
          refine CC.out.mono ?_
          rintro o w10 ⟨N3, K3, D3, C3, e3, rfl, Q3, K10⟩
          have F : Hid (Kept (fun _ => False) w w10) := S8.out.trans K10 (fun _ _ z => z)
          by_cases hbe : b.data.toList = []
          · have be : b.toList.isEmpty = true := by rw [Go.ByteArray.toList_eq, hbe]; rfl
            clear Q3 K10 CC XBQ hbe
            go_wp2_with fail
            go_ret
            exact ⟨by first | rfl | simp, F.out⟩
          · have be : b.toList.isEmpty = false := by
              rw [Go.ByteArray.toList_eq]
              cases hz : b.data.toList with
              | nil => exact absurd hz hbe
              | cons x r => rfl
            have e82 : e3 = 82 := by
              rw [XBQ.out.1] at Q3
              exact cfA_behind Q3 hbe ND.out
            subst e82
            clear Q3 K10 CC XBQ hbe
            go_wp2_with fail
            go_ret
            exact ⟨by first | rfl | simp, F.out⟩
  · have e1 := e1.symm
    have e2 := e2.symm
    have e3 := e3.symm
    have e4 := e4.symm
    subst e1
    subst e2
    subst e3
    subst e4
    have hc3 : ¬ c < 0 := by omega
    have hc4 : ¬ 255 < c := by omega
    clear Q
    have CC : Hid (Calls Tryd.prog 9 #[.string ⟨#[99, 111, 110, 102, 105, 103, 32, 51, 32, 49, 32, 48, 32, 50]⟩] w7 (RetF fun N K D C e w' => CfA ⟨#[99, 111, 110, 102, 105, 103, 32, 51, 32, 49, 32, 48, 32, 50]⟩ N K D C e ∧ Kept (fun _ => False) w7 w')) := hConfig _ w7 (by decide) (VV.out.kept KW.out)
    go_wp2_with fail
    refine CC.out.mono ?_
    rintro o w8 ⟨N2, K2, D2, C2, e2, rfl, Q2, K8⟩
    obtain ⟨rfl, rfl, rfl, rfl, rfl⟩ := cfA_const Q2
    have S8 : Hid (Kept (fun _ => False) w (w8.alloc (.cells #[.int .i64 3, .int .i64 1, .int .i64 0] 23))) := (KW.out.trans K8 (fun _ _ z => z)).alloc _
    clear Q2 K8 CC a0 a1 a2 b0 b1 b2 S7 KW
    obtain ⟨W9, hW9⟩ : ∃ W9, W9 = w8.alloc (.cells #[.int .i64 3, .int .i64 1, .int .i64 0] 23) := ⟨_, rfl⟩
    rw [← hW9] at S8
    go_upto_region 18 with fail
    rw [← hW9]
    clear hW9
    go_wp2_with fail
    go_loopw [14] (fun u14 wr => ∃ i : Nat, u14 = .int .i64 (i : Int) ∧ i ≤ b.size ∧ Hid (wr = W9 ∧ ∀ j c, j < i → b.data.toList[j]? = some c → ¬ Digit c)) (fun u14 _ => b.size - (intOf u14).toNat)
    case atStart => exact ⟨0, rfl, Nat.zero_le _, rfl, fun j c hj => absurd hj (by omega)⟩
    case round =>
      obtain ⟨i, rfl, hi, S⟩ := hrel
      have hwr := S.out.1
      subst hwr
      by_cases hlt : i < b.size
      · have i1 : (i : Int) < (b.size : Int) := by omega
        obtain ⟨x, hx⟩ : ∃ x : Nat, (b[i]'hlt).toNat = x := ⟨_, rfl⟩
        have XI : Hid (b.data.toList[i]? = some (b[i]'hlt) ∧ (b[i]'hlt).toNat = x) := ⟨get_list b i hlt, hx⟩
        by_cases h1 : 48 ≤ x
        · have h1i : (48 : Int) ≤ (x : Int) := by omega
          by_cases h2 : x ≤ 57
          · have h2i : (x : Int) ≤ 57 := by omega
            clear S XI
            go_wp2_with fail
            go_ret
            exact ⟨by first | rfl | simp, S8.out⟩
          · have h2i : ¬ (x : Int) ≤ 57 := by omega
            have NX : Hid (wr = wr ∧ ∀ j c, j < i + 1 → b.data.toList[j]? = some c → ¬ Digit c) := ⟨rfl, fun j c hj hc => by
              by_cases e : j < i
              · exact S.out.2 j c e hc
              · have : j = i := by omega
                subst this
                rw [XI.out.1] at hc
                rw [← Option.some.inj hc]
                unfold Digit
                rw [XI.out.2]
                omega⟩
            clear S XI
            go_wp2_with fail
            go_roundw
            case rel => exact ⟨i + 1, by go_num, by omega, ⟨by first | exact trivial | rfl, NX.out.2⟩⟩
            case measure => simp [intOf] <;> omega
        · have h1i : ¬ (48 : Int) ≤ (x : Int) := by omega
          have NX : Hid (wr = wr ∧ ∀ j c, j < i + 1 → b.data.toList[j]? = some c → ¬ Digit c) := ⟨rfl, fun j c hj hc => by
            by_cases e : j < i
            · exact S.out.2 j c e hc
            · have : j = i := by omega
              subst this
              rw [XI.out.1] at hc
              rw [← Option.some.inj hc]
              unfold Digit
              rw [XI.out.2]
              omega⟩
          clear S XI
          go_wp2_with fail
          go_roundw
          case rel => exact ⟨i + 1, by go_num, by omega, ⟨by first | exact trivial | rfl, NX.out.2⟩⟩
          case measure => simp [intOf] <;> omega
      · have i1 : ¬ (i : Int) < (b.size : Int) := by omega
        have ND : Hid (∀ c ∈ b.data.toList, ¬ Digit c) := fun c hc => by
          obtain ⟨j, hj⟩ := List.getElem?_of_mem hc
          have jl := (List.getElem?_eq_some_iff.1 hj).1
          rw [Array.length_toList] at jl
          exact S.out.2 j c (by have : j < b.size := jl; omega) hj
        clear S
        obtain ⟨XB, hXB⟩ : ∃ T, X7 ++ b = T := ⟨_, rfl⟩
        have gXB : ¬ 9223372036854775807 < X7.size + b.size := by have := hX7s.out; have := HB.out; omega
        have XBQ : Hid (XB = ofL (cfgL n k d c ++ b.data.toList) ∧ XB.size ≤ 281474976710656) := by
          rw [← hXB]
          refine ⟨?_, by rw [ByteArray.size_append]; have := hX7s.out; have := HB.out; omega⟩
          rw [HL.out]
          apply ByteArray.ext
          apply Array.toList_inj.1
          simp [ofL]
        have CC : Hid (Calls Tryd.prog 9 #[.string XB] wr (RetF fun N K D C e w' => CfA XB N K D C e ∧ Kept (fun _ => False) wr w')) := hConfig XB wr XBQ.out.2 (VV.out.kept S8.out)
        go_wp2_with fail
        refine CC.out.mono ?_
        rintro o w10 ⟨N3, K3, D3, C3, e3, rfl, Q3, K10⟩
        have F : Hid (Kept (fun _ => False) w w10) := S8.out.trans K10 (fun _ _ z => z)
        by_cases hbe : b.data.toList = []
        · have be : b.toList.isEmpty = true := by rw [Go.ByteArray.toList_eq, hbe]; rfl
          clear Q3 K10 CC XBQ hbe
          go_wp2_with fail
          go_ret
          exact ⟨by first | rfl | simp, F.out⟩
        · have be : b.toList.isEmpty = false := by
            rw [Go.ByteArray.toList_eq]
            cases hz : b.data.toList with
            | nil => exact absurd hz hbe
            | cons x r => rfl
          have e82 : e3 = 82 := by
            rw [XBQ.out.1] at Q3
            exact cfA_behind Q3 hbe ND.out
          subst e82
          clear Q3 K10 CC XBQ hbe
          go_wp2_with fail
          go_ret
          exact ⟨by first | rfl | simp, F.out⟩
end Go.Proofs.YtonfefhegghapaaDoor
