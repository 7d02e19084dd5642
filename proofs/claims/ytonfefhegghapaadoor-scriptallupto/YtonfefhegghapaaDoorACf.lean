import Derived.Test.YtonfefhegghapaaDoorACpJ
namespace Go.Proofs.YtonfefhegghapaaDoor
open Go.RowKit 

set_option maxRecDepth 100000 in
set_option maxHeartbeats 1000000 in
theorem hRefQ (n k d : Int) (w : World) : Calls Tryd.prog 48 #[.agg #[.int .i64 n, .int .i64 k, .int .i64 d]] w fun o w' => o = .returned (.int .i64 (ckE n k d)) ∧ Kept (fun _ => False) w w' := by
  obtain ⟨v, hv⟩ : ∃ v, v = ckE n k d := ⟨_, rfl⟩
  have HV : Hid (v = ckE n k d) := hv
  rw [← hv]
  clear hv
  unfold ckE at HV
  have K : Hid (Kept (fun _ => False) w (w.alloc (.cells #[.int .i64 n, .int .i64 k, .int .i64 d] 23))) := (Kept.refl _ _).alloc _
  go_enter Tryd.func48, Tryd.ntmps48
  by_cases h1 : k < 1
  · have e : v = 40 := by rw [HV.out, if_pos (.inl h1)]
    subst e
    clear HV
    go_wp2_with fail
    go_ret
    exact ⟨by first | rfl | simp, K.out⟩
  · by_cases h2 : n < k
    · have e : v = 40 := by rw [HV.out, if_pos (.inr (.inl h2))]
      subst e
      clear HV
      go_wp2_with fail
      go_ret
      exact ⟨by first | rfl | simp, K.out⟩
    · by_cases h3 : 255 < n
      · have e : v = 40 := by rw [HV.out, if_pos (.inr (.inr (.inl h3)))]
        subst e
        clear HV
        go_wp2_with fail
        go_ret
        exact ⟨by first | rfl | simp, K.out⟩
      · by_cases h4 : d < 0
        · have e : v = 40 := by rw [HV.out, if_pos (.inr (.inr (.inr (.inl h4))))]
          subst e
          clear HV
          go_wp2_with fail
          go_ret
          exact ⟨by first | rfl | simp, K.out⟩
        · by_cases h5 : 4611686018427387903 < d
          · have e : v = 40 := by rw [HV.out, if_pos (.inr (.inr (.inr (.inr h5))))]
            subst e
            clear HV
            go_wp2_with fail
            go_ret
            exact ⟨by first | rfl | simp, K.out⟩
          · have e : v = 0 := by rw [HV.out, if_neg (by omega)]
            subst e
            clear HV
            go_wp2_with fail
            go_ret
            exact ⟨by first | rfl | simp, K.out⟩
/-- Where the document's Config is: the answer's cell, the parts. -/
structure RC (w W : World) (g : Nat) (ps : List (List UInt8)) : Prop where
  an : W.heap[w.heap.size]? = some (.cells #[.int .i64 0, .int .i64 0, .int .i64 0] 23 (0, 0))
  lx : ∀ (i : Nat) (u : List UInt8), ps[i]? = some u → W.cell? ⟨g, i, none⟩ = some (.string (ofL u))
  kept : Kept (fun _ => False) w W
theorem RC.k0 {w W W' : World} {g : Nat} {ps : List (List UInt8)} (h : RC w W g ps) (K : Kept (fun _ => False) W W') : RC w W' g ps := ⟨K.get h.an (fun z => z), fun i u hu => K.cell (h.lx i u hu) (fun z => z), h.kept.trans K (fun _ _ z => z)⟩
theorem RC.fin {w W : World} {g : Nat} {ps : List (List UInt8)} (h : RC w W g ps) (x y z : Int) : (((W.setCell ⟨w.heap.size, 0, none⟩ (.int .i64 x)).setCell ⟨w.heap.size, 1, none⟩ (.int .i64 y)).setCell ⟨w.heap.size, 2, none⟩ (.int .i64 z)).heap[w.heap.size]? = some (.cells #[.int .i64 x, .int .i64 y, .int .i64 z] 23 (0, 0)) ∧ Kept (fun _ => False) w (((W.setCell ⟨w.heap.size, 0, none⟩ (.int .i64 x)).setCell ⟨w.heap.size, 1, none⟩ (.int .i64 y)).setCell ⟨w.heap.size, 2, none⟩ (.int .i64 z)) := by
  obtain ⟨h1, h2⟩ := set3 rfl h.an (.int .i64 x) (.int .i64 y) (.int .i64 z)
  exact ⟨h1, h.kept.trans h2 (fun j hj z => by omega)⟩
theorem five_of {ps : List (List UInt8)} (h : ps.length = 5) : ∃ x a b c d, ps = [x, a, b, c, d] := by
  match ps, h with
  | [x, a, b, c, d], _ => exact ⟨x, a, b, c, d, rfl⟩
set_option maxRecDepth 100000 in
set_option maxHeartbeats 8000000 in
/-- The document's Config. -/
theorem hRefCfg {w : World} {t : ByteArray} (ht : t.size ≤ 33554430) : Calls Tryd.prog 24 #[.string t] w (RetF fun N K D C e w' => CfS t.data.toList N K D C e ∧ Kept (fun _ => False) w w') := by
  obtain ⟨l, hl⟩ : ∃ l, t.data.toList = l := ⟨_, rfl⟩
  obtain ⟨ps, hps⟩ : ∃ ps, prtL 32 l = ps := ⟨_, rfl⟩
  obtain ⟨W1, hW1⟩ : ∃ W1, w.alloc (.cells #[.int .i64 0, .int .i64 0, .int .i64 0] 23) = W1 := ⟨_, rfl⟩
  have A1 : Hid (W1.heap[w.heap.size]? = some (.cells #[.int .i64 0, .int .i64 0, .int .i64 0] 23 (0, 0)) ∧ Kept (fun _ => False) w W1) := by
    rw [← hW1]
    exact ⟨alloc_new _ _, (Kept.refl _ _).alloc _⟩
  have C45 : Hid (Calls Tryd.prog 45 #[.string t, .int .u8 32] W1 fun o w' => ∃ (p : Option Addr) (k c : Nat), o = .returned (.slice p k c) ∧ LX W1 w' p k c (prtL 32 t.data.toList)) := hParts (w := W1) (t := t) (e := 32) (cy := 32) rfl (by omega)
  rw [hl, hps] at C45
  rw [hl]
  have HL : Hid (prtL 32 l = ps ∧ ∀ (i : Nat) (u : List UInt8), ps[i]? = some u → u.length ≤ 33554430) := ⟨hps, fun i u hu => by
    rw [← hps] at hu
    have h1 := prt_mem 32 l u (List.mem_of_getElem? hu)
    have h2 : t.data.toList.length = t.size := Array.length_toList
    rw [hl] at h2
    omega⟩
  have C47 : Hid (∀ (i : Nat) (u : List UInt8), ps[i]? = some u → ∀ V, Calls Tryd.prog 47 #[.string (ofL u)] V fun o w' => o = .returned (.int .i64 (numV u)) ∧ w' = V) := fun i u hu V => by
    have q := hRefNum (w := V) (t := ofL u) (by rw [ofL_sizeE]; have := HL.out.2 i u hu; omega)
    exact q
  have HW1 : Hid (w.alloc (.cells #[.int .i64 0, .int .i64 0, .int .i64 0] 23) = W1) := hW1
  have NE : Hid (∃ u, ps[0]? = some u) := by
    obtain ⟨a, b, e⟩ := prt_ne 32 l
    exact ⟨a, by rw [← hps, e]; rfl⟩
  clear hl hps hW1
  go_enter Tryd.func24, Tryd.ntmps24
  go_upto_region 1 with fail
  rw [HW1.out]
  clear HW1
  go_wp2_with fail
  refine C45.out.mono ?_
  rintro o w2 ⟨p, k, c, rfl, X⟩
  obtain ⟨x0, hx0⟩ := NE.out
  obtain ⟨g, eg, gc⟩ := X.at hx0
  subst eg
  have rk := (own_room X.row).1
  have S2 : Hid (RC w w2 g ps) := ⟨X.kept.get A1.out.1 (fun z => z), fun i u hu => by
    obtain ⟨g', e', hc⟩ := X.at hu
    obtain rfl : g = g' := by simpa using e'
    exact hc, A1.out.2.trans X.kept (fun _ _ z => z)⟩
  have KL : Hid (ps.length = k) := X.len
  clear X C45 A1 NE
  have a0 := cell_blk S2.out.an 0 (v := .int .i64 0) rfl
  have a1 := cell_blk S2.out.an 1 (v := .int .i64 0) rfl
  have a2 := cell_blk S2.out.an 2 (v := .int .i64 0) rfl
  have s0 := soft_blk S2.out.an 0
  have s1 := soft_blk S2.out.an 1
  have s2 := soft_blk S2.out.an 2
  have F0 : Hid _ := S2.out.fin 0 0 0
  by_cases hk : k = 5
  case neg =>
    have q0 : ((k : Int) != 5) = true := by simp; omega
    have q1 : ¬ (k : Int) = 5 := by omega
    have AN : Hid (CfS l 0 0 0 0 82) := .inr ⟨noc_len (by rw [HL.out.1, KL.out]; exact hk), rfl, rfl, rfl, rfl, rfl⟩
    clear gc hx0
    go_wp2_with fail
    refine bodyPost_ret (results_cfg3 rfl _ _ w.heap.size 0 0 0 rfl F0.out.1) rfl ?_
    exact ⟨0, 0, 0, 0, 82, rfl, AN.out, F0.out.2⟩
  subst hk
  obtain ⟨U0, hU0⟩ : ∃ U, ofL x0 = U := ⟨_, rfl⟩
  rw [hU0] at gc
  have HU0 : Hid (ps[0]? = some x0 ∧ ofL x0 = U0) := ⟨hx0, hU0⟩
  clear hx0 hU0
  have LT : U0.toList = x0 := by rw [Go.ByteArray.toList_eq, ← HU0.out.2]; rfl
  by_cases hw : x0 = [99, 111, 110, 102, 105, 103]
  case neg =>
    have eb : (U0.toList == [99, 111, 110, 102, 105, 103]) = false := by rw [LT]; simpa using hw
    have eb1 : ([99, 111, 110, 102, 105, 103] == U0.toList) = false := by rw [LT]; simpa using fun z => hw z.symm
    have AN : Hid (CfS l 0 0 0 0 82) := .inr ⟨noc_word (by rw [HL.out.1]; exact HU0.out.1) hw, rfl, rfl, rfl, rfl, rfl⟩
    have eb2 : (U0.toList != [99, 111, 110, 102, 105, 103]) = true := by simp only [bne, eb]; rfl
    have eb3 : ([99, 111, 110, 102, 105, 103] != U0.toList) = true := by simp only [bne, eb1]; rfl
    clear LT hw
    go_wp2_with fail
    refine bodyPost_ret (results_cfg3 rfl _ _ w.heap.size 0 0 0 rfl F0.out.1) rfl ?_
    exact ⟨0, 0, 0, 0, 82, rfl, AN.out, F0.out.2⟩
  have eb : (U0.toList == [99, 111, 110, 102, 105, 103]) = true := by rw [LT, hw]; rfl
  have eb1 : ([99, 111, 110, 102, 105, 103] == U0.toList) = true := by rw [LT, hw]; rfl
  have eb2 : (U0.toList != [99, 111, 110, 102, 105, 103]) = false := by simp only [bne, eb]; rfl
  have eb3 : ([99, 111, 110, 102, 105, 103] != U0.toList) = false := by simp only [bne, eb1]; rfl
  have HX0 : Hid (ps[0]? = some [99, 111, 110, 102, 105, 103]) := by show ps[0]? = _; rw [HU0.out.1, hw]
  clear LT hw a0 a1 a2 s0 s1 s2 F0
  go_upto_region 5 with fail
  clear eb eb1 eb2 eb3 gc HU0
  go_loopw [6] (fun u6 wr => ∃ (i : Nat), u6 = .int .i64 (i : Int) ∧ 1 ≤ i ∧ i ≤ 5 ∧ Hid (RC w wr g ps ∧ ∀ (j : Nat) (u : List UInt8), 1 ≤ j → j < i → ps[j]? = some u → Lib.itoa (numV u) = u)) (fun u6 _ => 5 - (intOf u6).toNat)
  case atStart => exact ⟨1, rfl, Nat.le_refl _, by omega, S2.out, fun j u h1 h2 => by omega⟩
  case round =>
    obtain ⟨i, rfl, hi1, hi5, S⟩ := hrel
    obtain ⟨wo, hwo⟩ : ∃ wo, wo = wr := ⟨_, rfl⟩
    rw [← hwo] at S ⊢
    clear hwo S2
    by_cases hlt : i < 5
    · have lti : (i : Int) < 5 := by omega
      obtain ⟨u, hu⟩ : ∃ u, ps[i]? = some u := ⟨_, List.getElem?_eq_getElem (by rw [KL.out]; exact hlt)⟩
      have CN := C47.out i u hu
      have MK0 : ∀ V, Kept (fun _ => False) wo V → V.cell? ⟨g, i, none⟩ = some (.string (ofL u)) := fun V K => K.cell (S.out.1.lx i u hu) (fun z => z)
      obtain ⟨U, hU⟩ : ∃ U, ofL u = U := ⟨_, rfl⟩
      obtain ⟨z, hz⟩ : ∃ z, numV u = z := ⟨_, rfl⟩
      have CD := hRefDec z (by rw [← hz]; exact numV_ki u)
      obtain ⟨T, hT⟩ : ∃ T, ofL (Lib.itoa z) = T := ⟨_, rfl⟩
      rw [hU, hz] at CN
      rw [hU] at MK0
      rw [hT] at CD
      have HCN : Hid _ := CN
      have HCD : Hid _ := CD
      have MK : Hid _ := MK0
      have TU : Hid (ps[i]? = some u ∧ (T = U ↔ Lib.itoa (numV u) = u)) := ⟨hu, by
        rw [← hT, ← hU, ← hz]
        exact ⟨fun q => congrArg (fun b : ByteArray => b.data.toList) q, fun q => by rw [q]⟩⟩
      have KD : Hid (Kept (fun _ => False) wo wo.drew) := (Kept.refl _ _).drew
      clear CN CD MK0 hu hU hz hT
      go_upto_region 7 with fail
      refine wp_region_held_drew (S := (fun V => V.cell? ⟨g, i, none⟩ = some (.string U))) (by kernel_rfl) ?_ (fun hHeld => ?_)
      · exact MK.out _ KD.out
      refine wpAnyH_take (i := 0) (oi := { dst := some 25, op := Go.Op.move (Go.Operand.tmp 5), type := 43, pos := "ref.go:219", after := #[], guard := none }) (v := .slice (some ⟨g, 0, none⟩) 5 c) rfl (by kernel_rfl) (by kernel_rfl) (by kernel_rfl) (fun _ _ _ h => h) (Or.inl ⟨by rfl, ?_⟩) (by assumption) ?_
      · intro w9 hSw
        (try dsimp only at hSw)
        go_simp
      (try simp only [Act.put, List.setIfInBounds_toArray, List.set_cons_zero, List.set_cons_succ])
      refine wpAnyH_take (i := 1) (oi := { dst := some 26, op := Go.Op.move (Go.Operand.tmp 6), type := 3, pos := "ref.go:219", after := #[], guard := none }) (v := .int .i64 (i : Int)) rfl (by kernel_rfl) (by kernel_rfl) (by kernel_rfl) (fun _ _ _ h => h) (Or.inl ⟨by rfl, ?_⟩) (by assumption) ?_
      · intro w9 hSw
        (try dsimp only at hSw)
        go_simp
      (try simp only [Act.put, List.setIfInBounds_toArray, List.set_cons_zero, List.set_cons_succ])
      refine wpAnyH_take (i := 2) (oi := { dst := some 27, op := Go.Op.indexAddr 43 (Go.Operand.tmp 25) (Go.Operand.tmp 26), type := 0, pos := "ref.go:219", after := #[{ on := 0, ground := Go.Ground.data }, { on := 1, ground := Go.Ground.data }], guard := none }) (v := .pointer (some ⟨g, i, none⟩)) rfl (by kernel_rfl) (by kernel_rfl) (by kernel_rfl) (fun _ _ _ h => h) (Or.inl ⟨by rfl, ?_⟩) (by assumption) ?_
      · intro w9 hSw
        (try dsimp only at hSw)
        go_simp
      (try simp only [Act.put, List.setIfInBounds_toArray, List.set_cons_zero, List.set_cons_succ])
      refine wpAnyH_take (i := 3) (oi := { dst := some 28, op := Go.Op.load 9 (Go.Operand.tmp 27), type := 9, pos := "ref.go:219", after := #[{ on := 2, ground := Go.Ground.data }], guard := none }) (v := .string U) rfl (by kernel_rfl) (by kernel_rfl) (by kernel_rfl) (fun _ _ _ h => h) (Or.inl ⟨by rfl, ?_⟩) (by assumption) ?_
      · intro w9 hSw
        (try dsimp only at hSw)
        go_simp
      (try simp only [Act.put, List.setIfInBounds_toArray, List.set_cons_zero, List.set_cons_succ])
      refine wpAnyH_take (i := 6) (oi := { dst := some 31, op := Go.Op.move (Go.Operand.tmp 5), type := 43, pos := "ref.go:219", after := #[], guard := none }) (v := .slice (some ⟨g, 0, none⟩) 5 c) rfl (by kernel_rfl) (by kernel_rfl) (by kernel_rfl) (fun _ _ _ h => h) (Or.inl ⟨by rfl, ?_⟩) (by assumption) ?_
      · intro w9 hSw
        (try dsimp only at hSw)
        go_simp
      (try simp only [Act.put, List.setIfInBounds_toArray, List.set_cons_zero, List.set_cons_succ])
      refine wpAnyH_take (i := 7) (oi := { dst := some 32, op := Go.Op.move (Go.Operand.tmp 6), type := 3, pos := "ref.go:219", after := #[], guard := none }) (v := .int .i64 (i : Int)) rfl (by kernel_rfl) (by kernel_rfl) (by kernel_rfl) (fun _ _ _ h => h) (Or.inl ⟨by rfl, ?_⟩) (by assumption) ?_
      · intro w9 hSw
        (try dsimp only at hSw)
        go_simp
      (try simp only [Act.put, List.setIfInBounds_toArray, List.set_cons_zero, List.set_cons_succ])
      refine wpAnyH_take (i := 8) (oi := { dst := some 33, op := Go.Op.indexAddr 43 (Go.Operand.tmp 31) (Go.Operand.tmp 32), type := 0, pos := "ref.go:219", after := #[{ on := 6, ground := Go.Ground.data }, { on := 7, ground := Go.Ground.data }], guard := none }) (v := .pointer (some ⟨g, i, none⟩)) rfl (by kernel_rfl) (by kernel_rfl) (by kernel_rfl) (fun _ _ _ h => h) (Or.inl ⟨by rfl, ?_⟩) (by assumption) ?_
      · intro w9 hSw
        (try dsimp only at hSw)
        go_simp
      (try simp only [Act.put, List.setIfInBounds_toArray, List.set_cons_zero, List.set_cons_succ])
      refine wpAnyH_take (i := 9) (oi := { dst := some 34, op := Go.Op.load 9 (Go.Operand.tmp 33), type := 9, pos := "ref.go:219", after := #[{ on := 8, ground := Go.Ground.data }], guard := none }) (v := .string U) rfl (by kernel_rfl) (by kernel_rfl) (by kernel_rfl) (fun _ _ _ h => h) (Or.inl ⟨by rfl, ?_⟩) (by assumption) ?_
      · intro w9 hSw
        (try dsimp only at hSw)
        go_simp
      (try simp only [Act.put, List.setIfInBounds_toArray, List.set_cons_zero, List.set_cons_succ])
      refine wpAnyH_ready (rs := [4]) (by kernel_rfl) (by simp) ?_
      refine (AllReadyH.cons (o := { dst := some 29, op := Go.Op.call { callee := Go.Callee.value (Go.Operand.func 47), args := #[Go.Operand.tmp 28], argTypes := #[9] }, type := 3, pos := "ref.go:219", after := #[{ on := 3, ground := Go.Ground.data }], guard := none }) rfl (fun K hK => ?_) AllReadyH.nil)
      go_simp
      refine (HCN.out _).mono ?_
      rintro o w6 ⟨rfl, hw⟩
      subst hw
      refine hK.out _ _ ?_ (fun hHeld => ?_)
      · exact MK.out _ KD.out
      clear hK K
      (try simp only [Act.put, List.setIfInBounds_toArray, List.set_cons_zero, List.set_cons_succ])
      refine wpAnyH_ready (rs := [5]) (by kernel_rfl) (by simp) ?_
      refine (AllReadyH.cons (o := { dst := some 30, op := Go.Op.call { callee := Go.Callee.value (Go.Operand.func 40), args := #[Go.Operand.tmp 29], argTypes := #[3] }, type := 9, pos := "ref.go:219", after := #[{ on := 4, ground := Go.Ground.data }, { on := 4, ground := Go.Ground.chain }], guard := none }) rfl (fun K hK => ?_) AllReadyH.nil)
      go_simp
      refine (HCD.out _).mono ?_
      rintro o w7 ⟨rfl, K7'⟩
      have K7 : Hid (Kept (fun _ => False) wo w7) := KD.out.trans K7' (fun _ _ z => z)
      clear K7'
      refine hK.out _ _ ?_ (fun hHeld => ?_)
      · exact MK.out _ K7.out
      clear hK K
      (try simp only [Act.put, List.setIfInBounds_toArray, List.set_cons_zero, List.set_cons_succ])
      have S7 : Hid (RC w w7 g ps) := S.out.1.k0 K7.out
      by_cases hE : T = U
      · have eb : (T.toList == U.toList) = true := by rw [eq_bytes]; exact decide_eq_true hE
        have eb2 : (T.toList != U.toList) = false := by show (!(T.toList == U.toList)) = false; rw [eb]; rfl
        have N : Hid (RC w w7 g ps ∧ ∀ (j : Nat) (u : List UInt8), 1 ≤ j → j < i + 1 → ps[j]? = some u → Lib.itoa (numV u) = u) := ⟨S7.out, fun j v h1 h2 hv => by
          by_cases hj : j < i
          · exact S.out.2 j v h1 hj hv
          · obtain rfl : j = i := by omega
            have q := TU.out.1
            rw [hv] at q
            obtain rfl : v = u := by simpa using q
            exact TU.out.2.1 hE⟩
        clear hE
        refine wpAnyH_take (i := 10) (oi := { dst := some 35, op := Go.Op.binOp Go.BinOp.neq 9 (Go.Operand.tmp 30) (Go.Operand.tmp 34) 9, type := 4, pos := "ref.go:219", after := #[{ on := 5, ground := Go.Ground.data }, { on := 9, ground := Go.Ground.data }], guard := none }) (v := .bool false) rfl (by kernel_rfl) (by kernel_rfl) (by kernel_rfl) (fun _ _ _ h => h) (Or.inl ⟨by rfl, ?_⟩) (by assumption) ?_
        · intro w9 hSw
          (try dsimp only at hSw)
          go_simp
        (try simp only [Act.put, List.setIfInBounds_toArray, List.set_cons_zero, List.set_cons_succ])
        refine wpAnyH_done (by kernel_rfl) ?_ _
        clear hHeld S S7 MK KD K7 TU
        go_wp2_with fail
        go_roundw
        case rel => exact ⟨i + 1, by go_num, by omega, by omega, N⟩
        case measure => simp [intOf] <;> omega
      · have eb : (T.toList == U.toList) = false := by rw [eq_bytes]; exact decide_eq_false hE
        have eb2 : (T.toList != U.toList) = true := by show (!(T.toList == U.toList)) = true; rw [eb]; rfl
        have AN : Hid (CfS l 0 0 0 0 82) := .inr ⟨noc_num hi1 (by rw [HL.out.1]; exact TU.out.1) (fun q => hE (TU.out.2.2 q)), rfl, rfl, rfl, rfl, rfl⟩
        clear hE
        refine wpAnyH_take (i := 10) (oi := { dst := some 35, op := Go.Op.binOp Go.BinOp.neq 9 (Go.Operand.tmp 30) (Go.Operand.tmp 34) 9, type := 4, pos := "ref.go:219", after := #[{ on := 5, ground := Go.Ground.data }, { on := 9, ground := Go.Ground.data }], guard := none }) (v := .bool true) rfl (by kernel_rfl) (by kernel_rfl) (by kernel_rfl) (fun _ _ _ h => h) (Or.inl ⟨by rfl, ?_⟩) (by assumption) ?_
        · intro w9 hSw
          (try dsimp only at hSw)
          go_simp
        (try simp only [Act.put, List.setIfInBounds_toArray, List.set_cons_zero, List.set_cons_succ])
        refine wpAnyH_done (by kernel_rfl) ?_ _
        have F0 : Hid _ := S7.out.fin 0 0 0
        have a0 := cell_blk S7.out.an 0 (v := .int .i64 0) rfl
        have a1 := cell_blk S7.out.an 1 (v := .int .i64 0) rfl
        have a2 := cell_blk S7.out.an 2 (v := .int .i64 0) rfl
        have s0 := soft_blk S7.out.an 0
        have s1 := soft_blk S7.out.an 1
        have s2 := soft_blk S7.out.an 2
        clear hHeld S MK KD K7 TU
        go_wp2_with fail
        refine bodyPost_ret (results_cfg3 rfl _ _ w.heap.size 0 0 0 rfl F0.out.1) rfl ?_
        exact ⟨0, 0, 0, 0, 82, rfl, AN.out, F0.out.2⟩
    · have lti : ¬ (i : Int) < 5 := by omega
      obtain ⟨x, a, b, d, e, hp⟩ := five_of KL.out
      have P1 : ps[1]? = some a := by rw [hp]; rfl
      have P2 : ps[2]? = some b := by rw [hp]; rfl
      have P3 : ps[3]? = some d := by rw [hp]; rfl
      have P4 : ps[4]? = some e := by rw [hp]; rfl
      have LEQ0 : l = cfgL (numV a) (numV b) (numV d) (numV e) := by
        refine cfg_of ?_ (S.out.2 1 a (by omega) (by omega) P1) (S.out.2 2 b (by omega) (by omega) P2) (S.out.2 3 d (by omega) (by omega) P3) (S.out.2 4 e (by omega) (by omega) P4)
        rw [HL.out.1]
        have q := HX0.out
        rw [hp] at q
        have q : x = [99, 111, 110, 102, 105, 103] := by simpa using q
        rw [hp, q]
      have C1 := C47.out 1 a P1
      have C2 := C47.out 2 b P2
      have C3 := C47.out 3 d P3
      have C4 := C47.out 4 e P4
      have K40 : K4 (numV a) (numV b) (numV d) (numV e) := ⟨numV_ki _, numV_ki _, numV_ki _, numV_ki _⟩
      have M0 : ∀ V, RC w V g ps → V.cell? ⟨g, 1, none⟩ = some (.string (ofL a)) ∧ V.cell? ⟨g, 2, none⟩ = some (.string (ofL b)) ∧ V.cell? ⟨g, 3, none⟩ = some (.string (ofL d)) ∧ V.cell? ⟨g, 4, none⟩ = some (.string (ofL e)) := fun V R => ⟨R.lx 1 a P1, R.lx 2 b P2, R.lx 3 d P3, R.lx 4 e P4⟩
      obtain ⟨n1, h1⟩ : ∃ z, numV a = z := ⟨_, rfl⟩
      obtain ⟨n2, h2⟩ : ∃ z, numV b = z := ⟨_, rfl⟩
      obtain ⟨n3, h3⟩ : ∃ z, numV d = z := ⟨_, rfl⟩
      obtain ⟨n4, h4⟩ : ∃ z, numV e = z := ⟨_, rfl⟩
      obtain ⟨T1, t1⟩ : ∃ z, ofL a = z := ⟨_, rfl⟩
      obtain ⟨T2, t2⟩ : ∃ z, ofL b = z := ⟨_, rfl⟩
      obtain ⟨T3, t3⟩ : ∃ z, ofL d = z := ⟨_, rfl⟩
      obtain ⟨T4, t4⟩ : ∃ z, ofL e = z := ⟨_, rfl⟩
      rw [h1, h2, h3, h4] at LEQ0 K40
      rw [t1, h1] at C1
      rw [t2, h2] at C2
      rw [t3, h3] at C3
      rw [t4, h4] at C4
      rw [t1, t2, t3, t4] at M0
      have HC1 : Hid _ := C1
      have HC2 : Hid _ := C2
      have HC3 : Hid _ := C3
      have HC4 : Hid _ := C4
      have MM : Hid _ := M0
      have LEQ : Hid (l = cfgL n1 n2 n3 n4 ∧ K4 n1 n2 n3 n4) := ⟨LEQ0, K40⟩
      clear C1 C2 C3 C4 M0 LEQ0 K40 h1 h2 h3 h4 t1 t2 t3 t4 P1 P2 P3 P4 hp
      go_upto_region 9 with fail
      have R0 : Hid (RC w wo.drew g ps) := S.out.1.k0 ((Kept.refl _ _).drew)
      have R1 : Hid (RC w (wo.drew.alloc (.cells #[.int .i64 0, .int .i64 0, .int .i64 0] 23)) g ps) := R0.out.k0 ((Kept.refl _ _).alloc _)
      have NW : Hid (RC w (wo.alloc (.cells #[.int .i64 n1, .int .i64 n2, .int .i64 n3] 23)).drew g ps ∧ (wo.alloc (.cells #[.int .i64 n1, .int .i64 n2, .int .i64 n3] 23)).drew.heap[wo.heap.size]? = some (.cells #[.int .i64 n1, .int .i64 n2, .int .i64 n3] 23 (0, 0))) := ⟨S.out.1.k0 ((Kept.refl _ _).alloc _).drew, alloc_new wo (.cells #[.int .i64 n1, .int .i64 n2, .int .i64 n3] 23)⟩
      have a0 := cell_blk (alloc_new wo.drew (.cells #[.int .i64 0, .int .i64 0, .int .i64 0] 23)) 0 (v := .int .i64 0) rfl
      have a1 := cell_blk (alloc_new wo.drew (.cells #[.int .i64 0, .int .i64 0, .int .i64 0] 23)) 1 (v := .int .i64 0) rfl
      have a2 := cell_blk (alloc_new wo.drew (.cells #[.int .i64 0, .int .i64 0, .int .i64 0] 23)) 2 (v := .int .i64 0) rfl
      have s0 := soft_blk (alloc_new wo.drew (.cells #[.int .i64 0, .int .i64 0, .int .i64 0] 23)) 0
      have s1 := soft_blk (alloc_new wo.drew (.cells #[.int .i64 0, .int .i64 0, .int .i64 0] 23)) 1
      have s2 := soft_blk (alloc_new wo.drew (.cells #[.int .i64 0, .int .i64 0, .int .i64 0] 23)) 2
      clear S
      refine wp_region_held_drew (S := (fun V => V.cell? ⟨g, 1, none⟩ = some (.string T1) ∧ V.cell? ⟨g, 2, none⟩ = some (.string T2) ∧ V.cell? ⟨g, 3, none⟩ = some (.string T3) ∧ V.cell? ⟨g, 4, none⟩ = some (.string T4))) (by kernel_rfl) ?_ (fun hHeld => ?_)
      · exact MM.out _ R0.out
      refine wpAnyH_take (i := 0) (oi := { dst := some 37, op := Go.Op.move (Go.Operand.tmp 5), type := 43, pos := "ref.go:223", after := #[], guard := none }) (v := .slice (some ⟨g, 0, none⟩) 5 c) rfl (by kernel_rfl) (by kernel_rfl) (by kernel_rfl) (fun _ _ _ h => h) (Or.inl ⟨by rfl, ?_⟩) (by assumption) ?_
      · intro w9 hSw
        (try dsimp only at hSw)
        go_simp
      (try simp only [Act.put, List.setIfInBounds_toArray, List.set_cons_zero, List.set_cons_succ])
      refine wpAnyH_take (i := 1) (oi := { dst := some 38, op := Go.Op.indexAddr 43 (Go.Operand.tmp 37) (Go.Operand.const (Go.Value.int Go.IntKind.i64 1)), type := 0, pos := "ref.go:223", after := #[{ on := 0, ground := Go.Ground.data }], guard := none }) (v := .pointer (some ⟨g, 1, none⟩)) rfl (by kernel_rfl) (by kernel_rfl) (by kernel_rfl) (fun _ _ _ h => h) (Or.inl ⟨by rfl, ?_⟩) (by assumption) ?_
      · intro w9 hSw
        (try dsimp only at hSw)
        go_simp
      (try simp only [Act.put, List.setIfInBounds_toArray, List.set_cons_zero, List.set_cons_succ])
      refine wpAnyH_take (i := 2) (oi := { dst := some 39, op := Go.Op.load 9 (Go.Operand.tmp 38), type := 9, pos := "ref.go:223", after := #[{ on := 1, ground := Go.Ground.data }], guard := none }) (v := .string T1) rfl (by kernel_rfl) (by kernel_rfl) (by kernel_rfl) (fun _ _ _ h => h) (Or.inl ⟨by rfl, ?_⟩) (by assumption) ?_
      · intro w9 hSw
        (try dsimp only at hSw)
        go_simp
      (try simp only [Act.put, List.setIfInBounds_toArray, List.set_cons_zero, List.set_cons_succ])
      refine wpAnyH_take (i := 4) (oi := { dst := some 41, op := Go.Op.move (Go.Operand.tmp 5), type := 43, pos := "ref.go:223", after := #[], guard := none }) (v := .slice (some ⟨g, 0, none⟩) 5 c) rfl (by kernel_rfl) (by kernel_rfl) (by kernel_rfl) (fun _ _ _ h => h) (Or.inl ⟨by rfl, ?_⟩) (by assumption) ?_
      · intro w9 hSw
        (try dsimp only at hSw)
        go_simp
      (try simp only [Act.put, List.setIfInBounds_toArray, List.set_cons_zero, List.set_cons_succ])
      refine wpAnyH_take (i := 5) (oi := { dst := some 42, op := Go.Op.indexAddr 43 (Go.Operand.tmp 41) (Go.Operand.const (Go.Value.int Go.IntKind.i64 2)), type := 0, pos := "ref.go:223", after := #[{ on := 4, ground := Go.Ground.data }], guard := none }) (v := .pointer (some ⟨g, 2, none⟩)) rfl (by kernel_rfl) (by kernel_rfl) (by kernel_rfl) (fun _ _ _ h => h) (Or.inl ⟨by rfl, ?_⟩) (by assumption) ?_
      · intro w9 hSw
        (try dsimp only at hSw)
        go_simp
      (try simp only [Act.put, List.setIfInBounds_toArray, List.set_cons_zero, List.set_cons_succ])
      refine wpAnyH_take (i := 6) (oi := { dst := some 43, op := Go.Op.load 9 (Go.Operand.tmp 42), type := 9, pos := "ref.go:223", after := #[{ on := 5, ground := Go.Ground.data }], guard := none }) (v := .string T2) rfl (by kernel_rfl) (by kernel_rfl) (by kernel_rfl) (fun _ _ _ h => h) (Or.inl ⟨by rfl, ?_⟩) (by assumption) ?_
      · intro w9 hSw
        (try dsimp only at hSw)
        go_simp
      (try simp only [Act.put, List.setIfInBounds_toArray, List.set_cons_zero, List.set_cons_succ])
      refine wpAnyH_take (i := 8) (oi := { dst := some 45, op := Go.Op.move (Go.Operand.tmp 5), type := 43, pos := "ref.go:223", after := #[], guard := none }) (v := .slice (some ⟨g, 0, none⟩) 5 c) rfl (by kernel_rfl) (by kernel_rfl) (by kernel_rfl) (fun _ _ _ h => h) (Or.inl ⟨by rfl, ?_⟩) (by assumption) ?_
      · intro w9 hSw
        (try dsimp only at hSw)
        go_simp
      (try simp only [Act.put, List.setIfInBounds_toArray, List.set_cons_zero, List.set_cons_succ])
      refine wpAnyH_take (i := 9) (oi := { dst := some 46, op := Go.Op.indexAddr 43 (Go.Operand.tmp 45) (Go.Operand.const (Go.Value.int Go.IntKind.i64 3)), type := 0, pos := "ref.go:223", after := #[{ on := 8, ground := Go.Ground.data }], guard := none }) (v := .pointer (some ⟨g, 3, none⟩)) rfl (by kernel_rfl) (by kernel_rfl) (by kernel_rfl) (fun _ _ _ h => h) (Or.inl ⟨by rfl, ?_⟩) (by assumption) ?_
      · intro w9 hSw
        (try dsimp only at hSw)
        go_simp
      (try simp only [Act.put, List.setIfInBounds_toArray, List.set_cons_zero, List.set_cons_succ])
      refine wpAnyH_take (i := 10) (oi := { dst := some 47, op := Go.Op.load 9 (Go.Operand.tmp 46), type := 9, pos := "ref.go:223", after := #[{ on := 9, ground := Go.Ground.data }], guard := none }) (v := .string T3) rfl (by kernel_rfl) (by kernel_rfl) (by kernel_rfl) (fun _ _ _ h => h) (Or.inl ⟨by rfl, ?_⟩) (by assumption) ?_
      · intro w9 hSw
        (try dsimp only at hSw)
        go_simp
      (try simp only [Act.put, List.setIfInBounds_toArray, List.set_cons_zero, List.set_cons_succ])
      refine wpAnyH_ready (rs := [3, 13]) (by kernel_rfl) (by simp) ?_
      refine (AllReadyH.cons (o := { dst := some 40, op := Go.Op.call { callee := Go.Callee.value (Go.Operand.func 47), args := #[Go.Operand.tmp 39], argTypes := #[9] }, type := 3, pos := "ref.go:223", after := #[{ on := 2, ground := Go.Ground.data }], guard := none }) rfl (fun K hK => ?_) (AllReadyH.cons (o := { dst := some 7, op := Go.Op.alloc 23, type := 0, pos := "ref.go:223", after := #[], guard := none }) rfl (fun K hK => ?_) AllReadyH.nil))
      · go_simp
        refine (HC1.out _).mono ?_
        rintro o w6 ⟨rfl, hw⟩
        subst hw
        refine hK.out _ _ ?_ (fun hHeld => ?_)
        · exact MM.out _ R0.out
        clear hK K
        (try simp only [Act.put, List.setIfInBounds_toArray, List.set_cons_zero, List.set_cons_succ])
        refine wpAnyH_ready (rs := [7, 13]) (by kernel_rfl) (by simp) ?_
        refine (AllReadyH.cons (o := { dst := some 44, op := Go.Op.call { callee := Go.Callee.value (Go.Operand.func 47), args := #[Go.Operand.tmp 43], argTypes := #[9] }, type := 3, pos := "ref.go:223", after := #[{ on := 6, ground := Go.Ground.data }, { on := 3, ground := Go.Ground.chain }], guard := none }) rfl (fun K hK => ?_) (AllReadyH.cons (o := { dst := some 7, op := Go.Op.alloc 23, type := 0, pos := "ref.go:223", after := #[], guard := none }) rfl (fun K hK => ?_) AllReadyH.nil))
        · go_simp
          refine (HC2.out _).mono ?_
          rintro o w6 ⟨rfl, hw⟩
          subst hw
          refine hK.out _ _ ?_ (fun hHeld => ?_)
          · exact MM.out _ R0.out
          clear hK K
          (try simp only [Act.put, List.setIfInBounds_toArray, List.set_cons_zero, List.set_cons_succ])
          refine wpAnyH_ready (rs := [11, 13]) (by kernel_rfl) (by simp) ?_
          refine (AllReadyH.cons (o := { dst := some 48, op := Go.Op.call { callee := Go.Callee.value (Go.Operand.func 47), args := #[Go.Operand.tmp 47], argTypes := #[9] }, type := 3, pos := "ref.go:223", after := #[{ on := 10, ground := Go.Ground.data }, { on := 7, ground := Go.Ground.chain }], guard := none }) rfl (fun K hK => ?_) (AllReadyH.cons (o := { dst := some 7, op := Go.Op.alloc 23, type := 0, pos := "ref.go:223", after := #[], guard := none }) rfl (fun K hK => ?_) AllReadyH.nil))
          · go_simp
            refine (HC3.out _).mono ?_
            rintro o w6 ⟨rfl, hw⟩
            subst hw
            refine hK.out _ _ ?_ (fun hHeld => ?_)
            · exact MM.out _ R0.out
            clear hK K
            (try simp only [Act.put, List.setIfInBounds_toArray, List.set_cons_zero, List.set_cons_succ])
            refine wpAnyH_take (i := 12) (oi := { dst := some 49, op := Go.Op.build 23 #[(0, Go.Operand.tmp 40), (1, Go.Operand.tmp 44), (2, Go.Operand.tmp 48)], type := 23, pos := "ref.go:223", after := #[{ on := 3, ground := Go.Ground.data }, { on := 7, ground := Go.Ground.data }, { on := 11, ground := Go.Ground.data }], guard := none }) (v := .agg #[.int .i64 n1, .int .i64 n2, .int .i64 n3]) rfl (by kernel_rfl) (by kernel_rfl) (by kernel_rfl) (fun _ _ _ h => h) (Or.inl ⟨by rfl, ?_⟩) (by assumption) ?_
            · intro w9 hSw
              (try dsimp only at hSw)
              go_simp
            (try simp only [Act.put, List.setIfInBounds_toArray, List.set_cons_zero, List.set_cons_succ])
            refine wpAnyH_ready (rs := [13]) (by kernel_rfl) (by simp) ?_
            refine (AllReadyH.cons (o := { dst := some 7, op := Go.Op.alloc 23, type := 0, pos := "ref.go:223", after := #[], guard := none }) rfl (fun K hK => ?_) AllReadyH.nil)
            go_simp
            refine hK.out _ _ ?_ (fun hHeld => ?_)
            · exact MM.out _ R1.out
            clear hK K
            (try simp only [Act.put, List.setIfInBounds_toArray, List.set_cons_zero, List.set_cons_succ])
            refine wpAnyH_ready (rs := [14]) (by kernel_rfl) (by simp) ?_
            refine (AllReadyH.cons (o := { dst := none, op := Go.Op.store 23 (Go.Operand.tmp 7) (Go.Operand.tmp 49), type := 0, pos := "ref.go:223", after := #[{ on := 13, ground := Go.Ground.data }, { on := 12, ground := Go.Ground.data }, { on := 11, ground := Go.Ground.chain }, { on := 0, ground := Go.Ground.phase }, { on := 1, ground := Go.Ground.phase }, { on := 2, ground := Go.Ground.phase }, { on := 3, ground := Go.Ground.phase }, { on := 4, ground := Go.Ground.phase }, { on := 5, ground := Go.Ground.phase }, { on := 6, ground := Go.Ground.phase }, { on := 7, ground := Go.Ground.phase }, { on := 8, ground := Go.Ground.phase }, { on := 9, ground := Go.Ground.phase }, { on := 10, ground := Go.Ground.phase }, { on := 11, ground := Go.Ground.phase }, { on := 12, ground := Go.Ground.phase }, { on := 13, ground := Go.Ground.phase }], guard := none }) rfl (fun K hK => ?_) AllReadyH.nil)
            go_simp
            refine hK.out _ _ ?_ (fun hHeld => ?_)
            · exact MM.out _ NW.out.1
            clear hK K
            (try simp only [Act.put])
            refine wpAnyH_done (by kernel_rfl) ?_ _
            clear a0 a1 a2 s0 s1 s2 R0 R1 hHeld
            obtain ⟨VF, hVF⟩ : ∃ VF, VF = (wo.alloc (.cells #[.int .i64 n1, .int .i64 n2, .int .i64 n3] 23)).drew := ⟨_, rfl⟩
            obtain ⟨B, hB⟩ : ∃ B, B = wo.heap.size := ⟨_, rfl⟩
            have N : Hid (RC w VF g ps ∧ VF.heap[B]? = some (.cells #[.int .i64 n1, .int .i64 n2, .int .i64 n3] 23 (0, 0))) := by
              rw [hVF, hB]
              exact NW.out
            rw [← hVF, ← hB]
            clear hVF hB NW
            have b0 := cell_blk N.out.2 0 (v := .int .i64 n1) rfl
            have b1 := cell_blk N.out.2 1 (v := .int .i64 n2) rfl
            have b2 := cell_blk N.out.2 2 (v := .int .i64 n3) rfl
            obtain ⟨e0, he⟩ : ∃ e0, e0 = ckE n1 n2 n3 := ⟨_, rfl⟩
            have CQ : Hid (Calls Tryd.prog 48 #[.agg #[.int .i64 n1, .int .i64 n2, .int .i64 n3]] VF fun o w' => o = .returned (.int .i64 e0) ∧ Kept (fun _ => False) VF w') := by rw [he]; exact hRefQ n1 n2 n3 VF
            have EE : Hid (e0 = ckE n1 n2 n3) := he
            clear he
            go_wp2_with fail
            refine CQ.out.mono ?_
            rintro o w5 ⟨rfl, K5⟩
            have N5 : Hid (RC w w5 g ps ∧ w5.heap[B]? = some (.cells #[.int .i64 n1, .int .i64 n2, .int .i64 n3] 23 (0, 0))) := ⟨N.out.1.k0 K5, K5.get N.out.2 (fun z => z)⟩
            clear K5 CQ N b0 b1 b2
            have a0 := cell_blk N5.out.1.an 0 (v := .int .i64 0) rfl
            have a1 := cell_blk N5.out.1.an 1 (v := .int .i64 0) rfl
            have a2 := cell_blk N5.out.1.an 2 (v := .int .i64 0) rfl
            have s0 := soft_blk N5.out.1.an 0
            have s1 := soft_blk N5.out.1.an 1
            have s2 := soft_blk N5.out.1.an 2
            have b0 := cell_blk N5.out.2 0 (v := .int .i64 n1) rfl
            have b1 := cell_blk N5.out.2 1 (v := .int .i64 n2) rfl
            have b2 := cell_blk N5.out.2 2 (v := .int .i64 n3) rfl
            have F0 : Hid _ := N5.out.1.fin 0 0 0
            have FN : Hid _ := N5.out.1.fin n1 n2 n3
            by_cases h0 : e0 = 0
            · subst h0
              have m4 := (MM.out _ N5.out.1).2.2.2
              go_upto_region 12 with fail
              go_wp2_with fail
              refine (HC4.out _).mono ?_
              rintro o w6 ⟨rfl, hw⟩
              subst hw
              by_cases hc1 : n4 < 0
              · have AN : Hid (CfS l 0 0 0 0 1) := .inl ⟨n1, n2, n3, n4, LEQ.out.2, LEQ.out.1, .inr (.inl ⟨EE.out.symm, .inl hc1, rfl, rfl, rfl, rfl, rfl⟩)⟩
                clear EE LEQ
                go_wp2_with fail
                refine bodyPost_ret (results_cfg3 rfl _ _ w.heap.size 0 0 0 rfl F0.out.1) rfl ?_
                exact ⟨0, 0, 0, 0, 1, rfl, AN.out, F0.out.2⟩
              · by_cases hc2 : 255 < n4
                · have AN : Hid (CfS l 0 0 0 0 1) := .inl ⟨n1, n2, n3, n4, LEQ.out.2, LEQ.out.1, .inr (.inl ⟨EE.out.symm, .inr hc2, rfl, rfl, rfl, rfl, rfl⟩)⟩
                  clear EE LEQ
                  go_wp2_with fail
                  refine bodyPost_ret (results_cfg3 rfl _ _ w.heap.size 0 0 0 rfl F0.out.1) rfl ?_
                  exact ⟨0, 0, 0, 0, 1, rfl, AN.out, F0.out.2⟩
                · have AN : Hid (CfS l n1 n2 n3 n4 0) := .inl ⟨n1, n2, n3, n4, LEQ.out.2, LEQ.out.1, .inr (.inr ⟨EE.out.symm, by omega, by omega, rfl, rfl, rfl, rfl, rfl⟩)⟩
                  clear EE LEQ
                  go_wp2_with fail
                  refine bodyPost_ret (results_cfg3 rfl _ _ w.heap.size n1 n2 n3 rfl FN.out.1) rfl ?_
                  exact ⟨n1, n2, n3, n4, 0, rfl, AN.out, FN.out.2⟩
            · have q0 : (e0 != 0) = true := by simp [h0]
              have AN : Hid (CfS l 0 0 0 0 40) := .inl ⟨n1, n2, n3, n4, LEQ.out.2, LEQ.out.1, .inl ⟨by rw [← EE.out]; exact h0, rfl, rfl, rfl, rfl, rfl⟩⟩
              clear EE LEQ
              go_wp2_with fail
              refine bodyPost_ret (results_cfg3 rfl _ _ w.heap.size 0 0 0 rfl F0.out.1) rfl ?_
              exact ⟨0, 0, 0, 0, 40, rfl, AN.out, F0.out.2⟩
          · go_simp
            refine hK.out _ _ ?_ (fun hHeld => ?_)
            · exact MM.out _ R1.out
            clear hK K
            (try simp only [Act.put, List.setIfInBounds_toArray, List.set_cons_zero, List.set_cons_succ])
            refine wpAnyH_ready (rs := [11]) (by kernel_rfl) (by simp) ?_
            refine (AllReadyH.cons (o := { dst := some 48, op := Go.Op.call { callee := Go.Callee.value (Go.Operand.func 47), args := #[Go.Operand.tmp 47], argTypes := #[9] }, type := 3, pos := "ref.go:223", after := #[{ on := 10, ground := Go.Ground.data }, { on := 7, ground := Go.Ground.chain }], guard := none }) rfl (fun K hK => ?_) AllReadyH.nil)
            go_simp
            refine (HC3.out _).mono ?_
            rintro o w6 ⟨rfl, hw⟩
            subst hw
            refine hK.out _ _ ?_ (fun hHeld => ?_)
            · exact MM.out _ R1.out
            clear hK K
            (try simp only [Act.put, List.setIfInBounds_toArray, List.set_cons_zero, List.set_cons_succ])
            refine wpAnyH_take (i := 12) (oi := { dst := some 49, op := Go.Op.build 23 #[(0, Go.Operand.tmp 40), (1, Go.Operand.tmp 44), (2, Go.Operand.tmp 48)], type := 23, pos := "ref.go:223", after := #[{ on := 3, ground := Go.Ground.data }, { on := 7, ground := Go.Ground.data }, { on := 11, ground := Go.Ground.data }], guard := none }) (v := .agg #[.int .i64 n1, .int .i64 n2, .int .i64 n3]) rfl (by kernel_rfl) (by kernel_rfl) (by kernel_rfl) (fun _ _ _ h => h) (Or.inl ⟨by rfl, ?_⟩) (by assumption) ?_
            · intro w9 hSw
              (try dsimp only at hSw)
              go_simp
            (try simp only [Act.put, List.setIfInBounds_toArray, List.set_cons_zero, List.set_cons_succ])
            refine wpAnyH_ready (rs := [14]) (by kernel_rfl) (by simp) ?_
            refine (AllReadyH.cons (o := { dst := none, op := Go.Op.store 23 (Go.Operand.tmp 7) (Go.Operand.tmp 49), type := 0, pos := "ref.go:223", after := #[{ on := 13, ground := Go.Ground.data }, { on := 12, ground := Go.Ground.data }, { on := 11, ground := Go.Ground.chain }, { on := 0, ground := Go.Ground.phase }, { on := 1, ground := Go.Ground.phase }, { on := 2, ground := Go.Ground.phase }, { on := 3, ground := Go.Ground.phase }, { on := 4, ground := Go.Ground.phase }, { on := 5, ground := Go.Ground.phase }, { on := 6, ground := Go.Ground.phase }, { on := 7, ground := Go.Ground.phase }, { on := 8, ground := Go.Ground.phase }, { on := 9, ground := Go.Ground.phase }, { on := 10, ground := Go.Ground.phase }, { on := 11, ground := Go.Ground.phase }, { on := 12, ground := Go.Ground.phase }, { on := 13, ground := Go.Ground.phase }], guard := none }) rfl (fun K hK => ?_) AllReadyH.nil)
            go_simp
            refine hK.out _ _ ?_ (fun hHeld => ?_)
            · exact MM.out _ NW.out.1
            clear hK K
            (try simp only [Act.put])
            refine wpAnyH_done (by kernel_rfl) ?_ _
            clear a0 a1 a2 s0 s1 s2 R0 R1 hHeld
            obtain ⟨VF, hVF⟩ : ∃ VF, VF = (wo.alloc (.cells #[.int .i64 n1, .int .i64 n2, .int .i64 n3] 23)).drew := ⟨_, rfl⟩
            obtain ⟨B, hB⟩ : ∃ B, B = wo.heap.size := ⟨_, rfl⟩
            have N : Hid (RC w VF g ps ∧ VF.heap[B]? = some (.cells #[.int .i64 n1, .int .i64 n2, .int .i64 n3] 23 (0, 0))) := by
              rw [hVF, hB]
              exact NW.out
            rw [← hVF, ← hB]
            clear hVF hB NW
            have b0 := cell_blk N.out.2 0 (v := .int .i64 n1) rfl
            have b1 := cell_blk N.out.2 1 (v := .int .i64 n2) rfl
            have b2 := cell_blk N.out.2 2 (v := .int .i64 n3) rfl
            obtain ⟨e0, he⟩ : ∃ e0, e0 = ckE n1 n2 n3 := ⟨_, rfl⟩
            have CQ : Hid (Calls Tryd.prog 48 #[.agg #[.int .i64 n1, .int .i64 n2, .int .i64 n3]] VF fun o w' => o = .returned (.int .i64 e0) ∧ Kept (fun _ => False) VF w') := by rw [he]; exact hRefQ n1 n2 n3 VF
            have EE : Hid (e0 = ckE n1 n2 n3) := he
            clear he
            go_wp2_with fail
            refine CQ.out.mono ?_
            rintro o w5 ⟨rfl, K5⟩
            have N5 : Hid (RC w w5 g ps ∧ w5.heap[B]? = some (.cells #[.int .i64 n1, .int .i64 n2, .int .i64 n3] 23 (0, 0))) := ⟨N.out.1.k0 K5, K5.get N.out.2 (fun z => z)⟩
            clear K5 CQ N b0 b1 b2
            have a0 := cell_blk N5.out.1.an 0 (v := .int .i64 0) rfl
            have a1 := cell_blk N5.out.1.an 1 (v := .int .i64 0) rfl
            have a2 := cell_blk N5.out.1.an 2 (v := .int .i64 0) rfl
            have s0 := soft_blk N5.out.1.an 0
            have s1 := soft_blk N5.out.1.an 1
            have s2 := soft_blk N5.out.1.an 2
            have b0 := cell_blk N5.out.2 0 (v := .int .i64 n1) rfl
            have b1 := cell_blk N5.out.2 1 (v := .int .i64 n2) rfl
            have b2 := cell_blk N5.out.2 2 (v := .int .i64 n3) rfl
            have F0 : Hid _ := N5.out.1.fin 0 0 0
            have FN : Hid _ := N5.out.1.fin n1 n2 n3
            by_cases h0 : e0 = 0
            · subst h0
              have m4 := (MM.out _ N5.out.1).2.2.2
              go_upto_region 12 with fail
              go_wp2_with fail
              refine (HC4.out _).mono ?_
              rintro o w6 ⟨rfl, hw⟩
              subst hw
              by_cases hc1 : n4 < 0
              · have AN : Hid (CfS l 0 0 0 0 1) := .inl ⟨n1, n2, n3, n4, LEQ.out.2, LEQ.out.1, .inr (.inl ⟨EE.out.symm, .inl hc1, rfl, rfl, rfl, rfl, rfl⟩)⟩
                clear EE LEQ
                go_wp2_with fail
                refine bodyPost_ret (results_cfg3 rfl _ _ w.heap.size 0 0 0 rfl F0.out.1) rfl ?_
                exact ⟨0, 0, 0, 0, 1, rfl, AN.out, F0.out.2⟩
              · by_cases hc2 : 255 < n4
                · have AN : Hid (CfS l 0 0 0 0 1) := .inl ⟨n1, n2, n3, n4, LEQ.out.2, LEQ.out.1, .inr (.inl ⟨EE.out.symm, .inr hc2, rfl, rfl, rfl, rfl, rfl⟩)⟩
                  clear EE LEQ
                  go_wp2_with fail
                  refine bodyPost_ret (results_cfg3 rfl _ _ w.heap.size 0 0 0 rfl F0.out.1) rfl ?_
                  exact ⟨0, 0, 0, 0, 1, rfl, AN.out, F0.out.2⟩
                · have AN : Hid (CfS l n1 n2 n3 n4 0) := .inl ⟨n1, n2, n3, n4, LEQ.out.2, LEQ.out.1, .inr (.inr ⟨EE.out.symm, by omega, by omega, rfl, rfl, rfl, rfl, rfl⟩)⟩
                  clear EE LEQ
                  go_wp2_with fail
                  refine bodyPost_ret (results_cfg3 rfl _ _ w.heap.size n1 n2 n3 rfl FN.out.1) rfl ?_
                  exact ⟨n1, n2, n3, n4, 0, rfl, AN.out, FN.out.2⟩
            · have q0 : (e0 != 0) = true := by simp [h0]
              have AN : Hid (CfS l 0 0 0 0 40) := .inl ⟨n1, n2, n3, n4, LEQ.out.2, LEQ.out.1, .inl ⟨by rw [← EE.out]; exact h0, rfl, rfl, rfl, rfl, rfl⟩⟩
              clear EE LEQ
              go_wp2_with fail
              refine bodyPost_ret (results_cfg3 rfl _ _ w.heap.size 0 0 0 rfl F0.out.1) rfl ?_
              exact ⟨0, 0, 0, 0, 40, rfl, AN.out, F0.out.2⟩
        · go_simp
          refine hK.out _ _ ?_ (fun hHeld => ?_)
          · exact MM.out _ R1.out
          clear hK K
          (try simp only [Act.put, List.setIfInBounds_toArray, List.set_cons_zero, List.set_cons_succ])
          refine wpAnyH_ready (rs := [7]) (by kernel_rfl) (by simp) ?_
          refine (AllReadyH.cons (o := { dst := some 44, op := Go.Op.call { callee := Go.Callee.value (Go.Operand.func 47), args := #[Go.Operand.tmp 43], argTypes := #[9] }, type := 3, pos := "ref.go:223", after := #[{ on := 6, ground := Go.Ground.data }, { on := 3, ground := Go.Ground.chain }], guard := none }) rfl (fun K hK => ?_) AllReadyH.nil)
          go_simp
          refine (HC2.out _).mono ?_
          rintro o w6 ⟨rfl, hw⟩
          subst hw
          refine hK.out _ _ ?_ (fun hHeld => ?_)
          · exact MM.out _ R1.out
          clear hK K
          (try simp only [Act.put, List.setIfInBounds_toArray, List.set_cons_zero, List.set_cons_succ])
          refine wpAnyH_ready (rs := [11]) (by kernel_rfl) (by simp) ?_
          refine (AllReadyH.cons (o := { dst := some 48, op := Go.Op.call { callee := Go.Callee.value (Go.Operand.func 47), args := #[Go.Operand.tmp 47], argTypes := #[9] }, type := 3, pos := "ref.go:223", after := #[{ on := 10, ground := Go.Ground.data }, { on := 7, ground := Go.Ground.chain }], guard := none }) rfl (fun K hK => ?_) AllReadyH.nil)
          go_simp
          refine (HC3.out _).mono ?_
          rintro o w6 ⟨rfl, hw⟩
          subst hw
          refine hK.out _ _ ?_ (fun hHeld => ?_)
          · exact MM.out _ R1.out
          clear hK K
          (try simp only [Act.put, List.setIfInBounds_toArray, List.set_cons_zero, List.set_cons_succ])
          refine wpAnyH_take (i := 12) (oi := { dst := some 49, op := Go.Op.build 23 #[(0, Go.Operand.tmp 40), (1, Go.Operand.tmp 44), (2, Go.Operand.tmp 48)], type := 23, pos := "ref.go:223", after := #[{ on := 3, ground := Go.Ground.data }, { on := 7, ground := Go.Ground.data }, { on := 11, ground := Go.Ground.data }], guard := none }) (v := .agg #[.int .i64 n1, .int .i64 n2, .int .i64 n3]) rfl (by kernel_rfl) (by kernel_rfl) (by kernel_rfl) (fun _ _ _ h => h) (Or.inl ⟨by rfl, ?_⟩) (by assumption) ?_
          · intro w9 hSw
            (try dsimp only at hSw)
            go_simp
          (try simp only [Act.put, List.setIfInBounds_toArray, List.set_cons_zero, List.set_cons_succ])
          refine wpAnyH_ready (rs := [14]) (by kernel_rfl) (by simp) ?_
          refine (AllReadyH.cons (o := { dst := none, op := Go.Op.store 23 (Go.Operand.tmp 7) (Go.Operand.tmp 49), type := 0, pos := "ref.go:223", after := #[{ on := 13, ground := Go.Ground.data }, { on := 12, ground := Go.Ground.data }, { on := 11, ground := Go.Ground.chain }, { on := 0, ground := Go.Ground.phase }, { on := 1, ground := Go.Ground.phase }, { on := 2, ground := Go.Ground.phase }, { on := 3, ground := Go.Ground.phase }, { on := 4, ground := Go.Ground.phase }, { on := 5, ground := Go.Ground.phase }, { on := 6, ground := Go.Ground.phase }, { on := 7, ground := Go.Ground.phase }, { on := 8, ground := Go.Ground.phase }, { on := 9, ground := Go.Ground.phase }, { on := 10, ground := Go.Ground.phase }, { on := 11, ground := Go.Ground.phase }, { on := 12, ground := Go.Ground.phase }, { on := 13, ground := Go.Ground.phase }], guard := none }) rfl (fun K hK => ?_) AllReadyH.nil)
          go_simp
          refine hK.out _ _ ?_ (fun hHeld => ?_)
          · exact MM.out _ NW.out.1
          clear hK K
          (try simp only [Act.put])
          refine wpAnyH_done (by kernel_rfl) ?_ _
          clear a0 a1 a2 s0 s1 s2 R0 R1 hHeld
          obtain ⟨VF, hVF⟩ : ∃ VF, VF = (wo.alloc (.cells #[.int .i64 n1, .int .i64 n2, .int .i64 n3] 23)).drew := ⟨_, rfl⟩
          obtain ⟨B, hB⟩ : ∃ B, B = wo.heap.size := ⟨_, rfl⟩
          have N : Hid (RC w VF g ps ∧ VF.heap[B]? = some (.cells #[.int .i64 n1, .int .i64 n2, .int .i64 n3] 23 (0, 0))) := by
            rw [hVF, hB]
            exact NW.out
          rw [← hVF, ← hB]
          clear hVF hB NW
          have b0 := cell_blk N.out.2 0 (v := .int .i64 n1) rfl
          have b1 := cell_blk N.out.2 1 (v := .int .i64 n2) rfl
          have b2 := cell_blk N.out.2 2 (v := .int .i64 n3) rfl
          obtain ⟨e0, he⟩ : ∃ e0, e0 = ckE n1 n2 n3 := ⟨_, rfl⟩
          have CQ : Hid (Calls Tryd.prog 48 #[.agg #[.int .i64 n1, .int .i64 n2, .int .i64 n3]] VF fun o w' => o = .returned (.int .i64 e0) ∧ Kept (fun _ => False) VF w') := by rw [he]; exact hRefQ n1 n2 n3 VF
          have EE : Hid (e0 = ckE n1 n2 n3) := he
          clear he
          go_wp2_with fail
          refine CQ.out.mono ?_
          rintro o w5 ⟨rfl, K5⟩
          have N5 : Hid (RC w w5 g ps ∧ w5.heap[B]? = some (.cells #[.int .i64 n1, .int .i64 n2, .int .i64 n3] 23 (0, 0))) := ⟨N.out.1.k0 K5, K5.get N.out.2 (fun z => z)⟩
          clear K5 CQ N b0 b1 b2
          have a0 := cell_blk N5.out.1.an 0 (v := .int .i64 0) rfl
          have a1 := cell_blk N5.out.1.an 1 (v := .int .i64 0) rfl
          have a2 := cell_blk N5.out.1.an 2 (v := .int .i64 0) rfl
          have s0 := soft_blk N5.out.1.an 0
          have s1 := soft_blk N5.out.1.an 1
          have s2 := soft_blk N5.out.1.an 2
          have b0 := cell_blk N5.out.2 0 (v := .int .i64 n1) rfl
          have b1 := cell_blk N5.out.2 1 (v := .int .i64 n2) rfl
          have b2 := cell_blk N5.out.2 2 (v := .int .i64 n3) rfl
          have F0 : Hid _ := N5.out.1.fin 0 0 0
          have FN : Hid _ := N5.out.1.fin n1 n2 n3
          by_cases h0 : e0 = 0
          · subst h0
            have m4 := (MM.out _ N5.out.1).2.2.2
            go_upto_region 12 with fail
            go_wp2_with fail
            refine (HC4.out _).mono ?_
            rintro o w6 ⟨rfl, hw⟩
            subst hw
            by_cases hc1 : n4 < 0
            · have AN : Hid (CfS l 0 0 0 0 1) := .inl ⟨n1, n2, n3, n4, LEQ.out.2, LEQ.out.1, .inr (.inl ⟨EE.out.symm, .inl hc1, rfl, rfl, rfl, rfl, rfl⟩)⟩
              clear EE LEQ
              go_wp2_with fail
              refine bodyPost_ret (results_cfg3 rfl _ _ w.heap.size 0 0 0 rfl F0.out.1) rfl ?_
              exact ⟨0, 0, 0, 0, 1, rfl, AN.out, F0.out.2⟩
            · by_cases hc2 : 255 < n4
              · have AN : Hid (CfS l 0 0 0 0 1) := .inl ⟨n1, n2, n3, n4, LEQ.out.2, LEQ.out.1, .inr (.inl ⟨EE.out.symm, .inr hc2, rfl, rfl, rfl, rfl, rfl⟩)⟩
                clear EE LEQ
                go_wp2_with fail
                refine bodyPost_ret (results_cfg3 rfl _ _ w.heap.size 0 0 0 rfl F0.out.1) rfl ?_
                exact ⟨0, 0, 0, 0, 1, rfl, AN.out, F0.out.2⟩
              · have AN : Hid (CfS l n1 n2 n3 n4 0) := .inl ⟨n1, n2, n3, n4, LEQ.out.2, LEQ.out.1, .inr (.inr ⟨EE.out.symm, by omega, by omega, rfl, rfl, rfl, rfl, rfl⟩)⟩
                clear EE LEQ
                go_wp2_with fail
                refine bodyPost_ret (results_cfg3 rfl _ _ w.heap.size n1 n2 n3 rfl FN.out.1) rfl ?_
                exact ⟨n1, n2, n3, n4, 0, rfl, AN.out, FN.out.2⟩
          · have q0 : (e0 != 0) = true := by simp [h0]
            have AN : Hid (CfS l 0 0 0 0 40) := .inl ⟨n1, n2, n3, n4, LEQ.out.2, LEQ.out.1, .inl ⟨by rw [← EE.out]; exact h0, rfl, rfl, rfl, rfl, rfl⟩⟩
            clear EE LEQ
            go_wp2_with fail
            refine bodyPost_ret (results_cfg3 rfl _ _ w.heap.size 0 0 0 rfl F0.out.1) rfl ?_
            exact ⟨0, 0, 0, 0, 40, rfl, AN.out, F0.out.2⟩
      · go_simp
        refine hK.out _ _ ?_ (fun hHeld => ?_)
        · exact MM.out _ R1.out
        clear hK K
        (try simp only [Act.put, List.setIfInBounds_toArray, List.set_cons_zero, List.set_cons_succ])
        refine wpAnyH_ready (rs := [3]) (by kernel_rfl) (by simp) ?_
        refine (AllReadyH.cons (o := { dst := some 40, op := Go.Op.call { callee := Go.Callee.value (Go.Operand.func 47), args := #[Go.Operand.tmp 39], argTypes := #[9] }, type := 3, pos := "ref.go:223", after := #[{ on := 2, ground := Go.Ground.data }], guard := none }) rfl (fun K hK => ?_) AllReadyH.nil)
        go_simp
        refine (HC1.out _).mono ?_
        rintro o w6 ⟨rfl, hw⟩
        subst hw
        refine hK.out _ _ ?_ (fun hHeld => ?_)
        · exact MM.out _ R1.out
        clear hK K
        (try simp only [Act.put, List.setIfInBounds_toArray, List.set_cons_zero, List.set_cons_succ])
        refine wpAnyH_ready (rs := [7]) (by kernel_rfl) (by simp) ?_
        refine (AllReadyH.cons (o := { dst := some 44, op := Go.Op.call { callee := Go.Callee.value (Go.Operand.func 47), args := #[Go.Operand.tmp 43], argTypes := #[9] }, type := 3, pos := "ref.go:223", after := #[{ on := 6, ground := Go.Ground.data }, { on := 3, ground := Go.Ground.chain }], guard := none }) rfl (fun K hK => ?_) AllReadyH.nil)
        go_simp
        refine (HC2.out _).mono ?_
        rintro o w6 ⟨rfl, hw⟩
        subst hw
        refine hK.out _ _ ?_ (fun hHeld => ?_)
        · exact MM.out _ R1.out
        clear hK K
        (try simp only [Act.put, List.setIfInBounds_toArray, List.set_cons_zero, List.set_cons_succ])
        refine wpAnyH_ready (rs := [11]) (by kernel_rfl) (by simp) ?_
        refine (AllReadyH.cons (o := { dst := some 48, op := Go.Op.call { callee := Go.Callee.value (Go.Operand.func 47), args := #[Go.Operand.tmp 47], argTypes := #[9] }, type := 3, pos := "ref.go:223", after := #[{ on := 10, ground := Go.Ground.data }, { on := 7, ground := Go.Ground.chain }], guard := none }) rfl (fun K hK => ?_) AllReadyH.nil)
        go_simp
        refine (HC3.out _).mono ?_
        rintro o w6 ⟨rfl, hw⟩
        subst hw
        refine hK.out _ _ ?_ (fun hHeld => ?_)
        · exact MM.out _ R1.out
        clear hK K
        (try simp only [Act.put, List.setIfInBounds_toArray, List.set_cons_zero, List.set_cons_succ])
        refine wpAnyH_take (i := 12) (oi := { dst := some 49, op := Go.Op.build 23 #[(0, Go.Operand.tmp 40), (1, Go.Operand.tmp 44), (2, Go.Operand.tmp 48)], type := 23, pos := "ref.go:223", after := #[{ on := 3, ground := Go.Ground.data }, { on := 7, ground := Go.Ground.data }, { on := 11, ground := Go.Ground.data }], guard := none }) (v := .agg #[.int .i64 n1, .int .i64 n2, .int .i64 n3]) rfl (by kernel_rfl) (by kernel_rfl) (by kernel_rfl) (fun _ _ _ h => h) (Or.inl ⟨by rfl, ?_⟩) (by assumption) ?_
        · intro w9 hSw
          (try dsimp only at hSw)
          go_simp
        (try simp only [Act.put, List.setIfInBounds_toArray, List.set_cons_zero, List.set_cons_succ])
        refine wpAnyH_ready (rs := [14]) (by kernel_rfl) (by simp) ?_
        refine (AllReadyH.cons (o := { dst := none, op := Go.Op.store 23 (Go.Operand.tmp 7) (Go.Operand.tmp 49), type := 0, pos := "ref.go:223", after := #[{ on := 13, ground := Go.Ground.data }, { on := 12, ground := Go.Ground.data }, { on := 11, ground := Go.Ground.chain }, { on := 0, ground := Go.Ground.phase }, { on := 1, ground := Go.Ground.phase }, { on := 2, ground := Go.Ground.phase }, { on := 3, ground := Go.Ground.phase }, { on := 4, ground := Go.Ground.phase }, { on := 5, ground := Go.Ground.phase }, { on := 6, ground := Go.Ground.phase }, { on := 7, ground := Go.Ground.phase }, { on := 8, ground := Go.Ground.phase }, { on := 9, ground := Go.Ground.phase }, { on := 10, ground := Go.Ground.phase }, { on := 11, ground := Go.Ground.phase }, { on := 12, ground := Go.Ground.phase }, { on := 13, ground := Go.Ground.phase }], guard := none }) rfl (fun K hK => ?_) AllReadyH.nil)
        go_simp
        refine hK.out _ _ ?_ (fun hHeld => ?_)
        · exact MM.out _ NW.out.1
        clear hK K
        (try simp only [Act.put])
        refine wpAnyH_done (by kernel_rfl) ?_ _
        clear a0 a1 a2 s0 s1 s2 R0 R1 hHeld
        obtain ⟨VF, hVF⟩ : ∃ VF, VF = (wo.alloc (.cells #[.int .i64 n1, .int .i64 n2, .int .i64 n3] 23)).drew := ⟨_, rfl⟩
        obtain ⟨B, hB⟩ : ∃ B, B = wo.heap.size := ⟨_, rfl⟩
        have N : Hid (RC w VF g ps ∧ VF.heap[B]? = some (.cells #[.int .i64 n1, .int .i64 n2, .int .i64 n3] 23 (0, 0))) := by
          rw [hVF, hB]
          exact NW.out
        rw [← hVF, ← hB]
        clear hVF hB NW
        have b0 := cell_blk N.out.2 0 (v := .int .i64 n1) rfl
        have b1 := cell_blk N.out.2 1 (v := .int .i64 n2) rfl
        have b2 := cell_blk N.out.2 2 (v := .int .i64 n3) rfl
        obtain ⟨e0, he⟩ : ∃ e0, e0 = ckE n1 n2 n3 := ⟨_, rfl⟩
        have CQ : Hid (Calls Tryd.prog 48 #[.agg #[.int .i64 n1, .int .i64 n2, .int .i64 n3]] VF fun o w' => o = .returned (.int .i64 e0) ∧ Kept (fun _ => False) VF w') := by rw [he]; exact hRefQ n1 n2 n3 VF
        have EE : Hid (e0 = ckE n1 n2 n3) := he
        clear he
        go_wp2_with fail
        refine CQ.out.mono ?_
        rintro o w5 ⟨rfl, K5⟩
        have N5 : Hid (RC w w5 g ps ∧ w5.heap[B]? = some (.cells #[.int .i64 n1, .int .i64 n2, .int .i64 n3] 23 (0, 0))) := ⟨N.out.1.k0 K5, K5.get N.out.2 (fun z => z)⟩
        clear K5 CQ N b0 b1 b2
        have a0 := cell_blk N5.out.1.an 0 (v := .int .i64 0) rfl
        have a1 := cell_blk N5.out.1.an 1 (v := .int .i64 0) rfl
        have a2 := cell_blk N5.out.1.an 2 (v := .int .i64 0) rfl
        have s0 := soft_blk N5.out.1.an 0
        have s1 := soft_blk N5.out.1.an 1
        have s2 := soft_blk N5.out.1.an 2
        have b0 := cell_blk N5.out.2 0 (v := .int .i64 n1) rfl
        have b1 := cell_blk N5.out.2 1 (v := .int .i64 n2) rfl
        have b2 := cell_blk N5.out.2 2 (v := .int .i64 n3) rfl
        have F0 : Hid _ := N5.out.1.fin 0 0 0
        have FN : Hid _ := N5.out.1.fin n1 n2 n3
        by_cases h0 : e0 = 0
        · subst h0
          have m4 := (MM.out _ N5.out.1).2.2.2
          go_upto_region 12 with fail
          go_wp2_with fail
          refine (HC4.out _).mono ?_
          rintro o w6 ⟨rfl, hw⟩
          subst hw
          by_cases hc1 : n4 < 0
          · have AN : Hid (CfS l 0 0 0 0 1) := .inl ⟨n1, n2, n3, n4, LEQ.out.2, LEQ.out.1, .inr (.inl ⟨EE.out.symm, .inl hc1, rfl, rfl, rfl, rfl, rfl⟩)⟩
            clear EE LEQ
            go_wp2_with fail
            refine bodyPost_ret (results_cfg3 rfl _ _ w.heap.size 0 0 0 rfl F0.out.1) rfl ?_
            exact ⟨0, 0, 0, 0, 1, rfl, AN.out, F0.out.2⟩
          · by_cases hc2 : 255 < n4
            · have AN : Hid (CfS l 0 0 0 0 1) := .inl ⟨n1, n2, n3, n4, LEQ.out.2, LEQ.out.1, .inr (.inl ⟨EE.out.symm, .inr hc2, rfl, rfl, rfl, rfl, rfl⟩)⟩
              clear EE LEQ
              go_wp2_with fail
              refine bodyPost_ret (results_cfg3 rfl _ _ w.heap.size 0 0 0 rfl F0.out.1) rfl ?_
              exact ⟨0, 0, 0, 0, 1, rfl, AN.out, F0.out.2⟩
            · have AN : Hid (CfS l n1 n2 n3 n4 0) := .inl ⟨n1, n2, n3, n4, LEQ.out.2, LEQ.out.1, .inr (.inr ⟨EE.out.symm, by omega, by omega, rfl, rfl, rfl, rfl, rfl⟩)⟩
              clear EE LEQ
              go_wp2_with fail
              refine bodyPost_ret (results_cfg3 rfl _ _ w.heap.size n1 n2 n3 rfl FN.out.1) rfl ?_
              exact ⟨n1, n2, n3, n4, 0, rfl, AN.out, FN.out.2⟩
        · have q0 : (e0 != 0) = true := by simp [h0]
          have AN : Hid (CfS l 0 0 0 0 40) := .inl ⟨n1, n2, n3, n4, LEQ.out.2, LEQ.out.1, .inl ⟨by rw [← EE.out]; exact h0, rfl, rfl, rfl, rfl, rfl⟩⟩
          clear EE LEQ
          go_wp2_with fail
          refine bodyPost_ret (results_cfg3 rfl _ _ w.heap.size 0 0 0 rfl F0.out.1) rfl ?_
          exact ⟨0, 0, 0, 0, 40, rfl, AN.out, F0.out.2⟩
end Go.Proofs.YtonfefhegghapaaDoor
