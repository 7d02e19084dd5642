import Derived.Test.YtbangbobfeflcaaGreatDoorRSw
namespace Go.Proofs.YtbangbobfeflcaaGreatDoor
open Go.RowKit 

theorem slice_ev (b off n c i : Nat) (hi : i ≤ n) (hn : n ≤ c) (W : World) : (Instr.slice 22 (.slice (some ⟨b, off, none⟩) n c) none (some (.int .i64 (i : Int))) none).run Tryz.prog W = .ok (.slice (some ⟨b, off, none⟩) i c) W := by
  have h3 : i ≤ c := by omega
  simp [Instr.slice, Instr.sliceBounds, Instr.sliceBound, asIntOf, run_underlying Tryz.underlying22, h3]
  intro _
  rw [Addr.add_none]
  rfl
theorem ERd.pre {w : World} {p : Option Addr} {n c : Nat} {es : List Ev} (h : ERd w p n c es) {i : Nat} (hi : i ≤ n) : ERd w p i c (es.take i) := by
  refine ⟨by rw [List.length_take, h.len]; omega, by have := h.room; omega, h.small, fun h0 => ?_, fun e he => h.rd e (List.mem_of_mem_take he)⟩
  obtain ⟨b, off, e, hc⟩ := h.cells (by omega)
  refine ⟨b, off, e, fun j hj k v hv => ?_⟩
  have hj2 : j < es.length := by rw [List.length_take] at hj; omega
  refine hc j hj2 k v ?_
  rw [List.getElem_take] at hv
  exact hv
theorem chk_at {es : List Ev} {i : Nat} {e : Ev} (he : es[i]? = some e) (h : chkE (es.take i) noM 0 = (-1, 0)) : chkE es noM 0 = if faultE e ≠ 0 then ((i : Int), faultE e) else if mayF (lastM (es.take i) noM e.client) e = false then ((i : Int), 80) else chkE (es.drop (i + 1)) (upd (lastM (es.take i) noM) e.client e) (i + 1) := by
  have hl := (List.getElem?_eq_some_iff.1 he).1
  have q := chk_app (es.take i) (es.drop i) noM 0 h
  rw [List.take_append_drop, List.drop_eq_getElem_cons hl, chk_cons, List.length_take, Nat.zero_add, Nat.min_eq_left (by omega)] at q
  rw [q, (List.getElem?_eq_some_iff.1 he).2]
theorem chk_next {es : List Ev} {i : Nat} {e : Ev} (he : es[i]? = some e) (h : chkE (es.take i) noM 0 = (-1, 0)) (h1 : faultE e = 0) (h2 : mayF (lastM (es.take i) noM e.client) e = true) : chkE (es.take (i + 1)) noM 0 = (-1, 0) := by
  have et : es.take (i + 1) = es.take i ++ [e] := by rw [List.take_add_one, he]; rfl
  rw [et, chk_app _ _ _ _ h, chk_cons, if_neg (by simp [h1]), if_neg (by simp [h2])]
  rfl
set_option maxRecDepth 100000 in
set_option maxHeartbeats 4000000 in
theorem hRefCheck {w : World} {p : Option Addr} {n c : Nat} {es : List Ev} (er : ERd w p n c es) (nb : n ≤ 1500000000000) : Calls Tryz.prog 20 #[.slice p n c] w (RetI2 fun a b w' => (a, b) = chkE es noM 0 ∧ Kept (fun _ => False) w w') := by
  have H : Hid (ERd w p n c es) := er
  have rm := er.room
  have sm := er.small
  unfold maxLen at sm
  have S0 : Hid (Kept (fun _ => False) w w ∧ chkE (es.take 0) noM 0 = (-1, 0)) := ⟨Kept.refl _ _, rfl⟩
  clear er
  go_enter Tryz.func20, Tryz.ntmps20
  go_upto_region 2 with fail
  go_loopw [4, 5] (fun u4 _ wr => ∃ i : Nat, u4 = .int .i64 (i : Int) ∧ i ≤ n ∧ Hid (Kept (fun _ => False) w wr ∧ chkE (es.take i) noM 0 = (-1, 0))) (fun u4 _ _ => n - (intOf u4).toNat)
  case atStart => exact ⟨0, rfl, Nat.zero_le _, S0⟩
  case round =>
    clear S0
    obtain ⟨i, rfl, hi, S⟩ := hrel
    obtain ⟨wo, hwo⟩ : ∃ wo, wo = wr := ⟨_, rfl⟩
    rw [← hwo] at S ⊢
    clear hwo
    by_cases hlt : i < n
    · have lti : (i : Int) < (n : Int) := by omega
      have i0 : (0 : Int) ≤ (i : Int) := by omega
      obtain ⟨b, off, e, rfl, he, c0, c1, c2, c3, c4, c5, c6, c7, c8, rd⟩ := (H.out.k0 S.out.1).at hlt
      obtain ⟨fe, hfe⟩ : ∃ fe, faultE e = fe := ⟨_, rfl⟩
      have HE : Hid (es[i]? = some e ∧ faultE e = fe) := ⟨he, hfe⟩
      have C34 : Hid (∀ V, Calls Tryz.prog 34 #[.agg #[.int .i64 e.kind, .int .i64 e.client, .int .i64 e.op, .bool e.put, .string e.key, .slice e.va e.vn e.vc, .int .i64 e.st, .int .i64 e.tx, .int .i64 e.ty]] V fun o w' => o = .returned (.int .i64 fe) ∧ Kept (fun _ => False) V w') := fun V => by
        rw [← hfe]
        exact hRForm e (by have h1 := rd.room; have h2 := rd.small; unfold maxLen at h2; omega) V
      clear he rd hfe
      go_wp2_with fail
      refine (C34.out _).mono ?_
      rintro o w5 ⟨rfl, K5'⟩
      have d0 := K5'.cell c0 (fun z => z)
      have d1 := K5'.cell c1 (fun z => z)
      have d2 := K5'.cell c2 (fun z => z)
      have d3 := K5'.cell c3 (fun z => z)
      have d4 := K5'.cell c4 (fun z => z)
      have d5 := K5'.cell c5 (fun z => z)
      have d6 := K5'.cell c6 (fun z => z)
      have d7 := K5'.cell c7 (fun z => z)
      have d8 := K5'.cell c8 (fun z => z)
      have S5 : Hid (Kept (fun _ => False) w w5) := S.out.1.trans K5' (fun _ _ z => z)
      clear c0 c1 c2 c3 c4 c5 c6 c7 c8 C34 K5'
      by_cases hf : fe = 0
      · have HF : Hid (fe = 0) := hf
        subst hf
        obtain ⟨sf, hsf⟩ : ∃ sf, stF (es.take i) e = sf := ⟨_, rfl⟩
        have C42 : Hid (∀ V, Kept (fun _ => False) w5 V → Calls Tryz.prog 42 #[.slice (some ⟨b, off, none⟩) i c, .agg #[.int .i64 e.kind, .int .i64 e.client, .int .i64 e.op, .bool e.put, .string e.key, .slice e.va e.vn e.vc, .int .i64 e.st, .int .i64 e.tx, .int .i64 e.ty]] V fun o w' => o = .returned (.bool sf) ∧ Kept (fun _ => False) V w') := fun V KV => by
          rw [← hsf]
          exact hStanding (((H.out.k0 S5.out).k0 KV).pre hi) (by omega) e
        have MY : Hid (mayF (lastM (es.take i) noM e.client) e = sf) := by
          show _ = _
          rw [← hsf]
          exact (st_may S.out.2 e).symm
        have sl := slice_ev b off n c i hi rm
        clear hsf
        go_upto_region 5 with fail
        refine wp_region_held_drew (S := (fun w' => w'.cell? ⟨b, off + i * 9, none⟩ = some (.int .i64 e.kind) ∧ w'.cell? ⟨b, off + i * 9 + 1, none⟩ = some (.int .i64 e.client) ∧ w'.cell? ⟨b, off + i * 9 + 2, none⟩ = some (.int .i64 e.op) ∧ w'.cell? ⟨b, off + i * 9 + 3, none⟩ = some (.bool e.put) ∧ w'.cell? ⟨b, off + i * 9 + 4, none⟩ = some (.string e.key) ∧ w'.cell? ⟨b, off + i * 9 + 5, none⟩ = some (.slice e.va e.vn e.vc) ∧ w'.cell? ⟨b, off + i * 9 + 6, none⟩ = some (.int .i64 e.st) ∧ w'.cell? ⟨b, off + i * 9 + 7, none⟩ = some (.int .i64 e.tx) ∧ w'.cell? ⟨b, off + i * 9 + 8, none⟩ = some (.int .i64 e.ty))) (by kernel_rfl) ⟨d0, d1, d2, d3, d4, d5, d6, d7, d8⟩ (fun hHeld => ?_)
        refine wpAnyH_take (i := 0) (oi := { dst := some 17, op := Go.Op.move (Go.Operand.tmp 5), type := 35, pos := "ref.go:106", after := #[], guard := none }) (v := .int .i64 0) rfl (by kernel_rfl) (by kernel_rfl) (by kernel_rfl) (fun _ _ _ h => h) (Or.inl ⟨by rfl, ?_⟩) (by assumption) ?_
        · intro w9 hSw
          (try dsimp only at hSw)
          go_simp
        (try simp only [Act.put, List.setIfInBounds_toArray, List.set_cons_zero, List.set_cons_succ])
        refine wpAnyH_take (i := 1) (oi := { dst := some 18, op := Go.Op.binOp Go.BinOp.eql 35 (Go.Operand.tmp 17) (Go.Operand.const (Go.Value.int Go.IntKind.i64 0)) 35, type := 4, pos := "ref.go:106", after := #[{ on := 0, ground := Go.Ground.data }], guard := none }) (v := .bool true) rfl (by kernel_rfl) (by kernel_rfl) (by kernel_rfl) (fun _ _ _ h => h) (Or.inl ⟨by rfl, ?_⟩) (by assumption) ?_
        · intro w9 hSw
          (try dsimp only at hSw)
          go_simp
        (try simp only [Act.put, List.setIfInBounds_toArray, List.set_cons_zero, List.set_cons_succ])
        refine wpAnyH_take (i := 2) (oi := { dst := some 19, op := Go.Op.move (Go.Operand.tmp 18), type := 4, pos := "ref.go:106", after := #[{ on := 1, ground := Go.Ground.data }], guard := none }) (v := .bool true) rfl (by kernel_rfl) (by kernel_rfl) (by kernel_rfl) (fun _ _ _ h => h) (Or.inl ⟨by rfl, ?_⟩) (by assumption) ?_
        · intro w9 hSw
          (try dsimp only at hSw)
          go_simp
        (try simp only [Act.put, List.setIfInBounds_toArray, List.set_cons_zero, List.set_cons_succ])
        refine wpAnyH_take (i := 3) (oi := { dst := some 20, op := Go.Op.move (Go.Operand.tmp 0), type := 22, pos := "ref.go:106", after := #[{ on := 2, ground := Go.Ground.guard }], guard := some (2, true) }) (v := .slice (some ⟨b, off, none⟩) n c) rfl (by kernel_rfl) (by kernel_rfl) (by kernel_rfl) (fun _ _ _ h => h) (Or.inl ⟨by rfl, ?_⟩) (by assumption) ?_
        · intro w9 hSw
          (try dsimp only at hSw)
          go_simp
        (try simp only [Act.put, List.setIfInBounds_toArray, List.set_cons_zero, List.set_cons_succ])
        refine wpAnyH_take (i := 4) (oi := { dst := some 21, op := Go.Op.move (Go.Operand.tmp 4), type := 3, pos := "ref.go:106", after := #[{ on := 2, ground := Go.Ground.guard }], guard := some (2, true) }) (v := .int .i64 (i : Int)) rfl (by kernel_rfl) (by kernel_rfl) (by kernel_rfl) (fun _ _ _ h => h) (Or.inl ⟨by rfl, ?_⟩) (by assumption) ?_
        · intro w9 hSw
          (try dsimp only at hSw)
          go_simp
        (try simp only [Act.put, List.setIfInBounds_toArray, List.set_cons_zero, List.set_cons_succ])
        refine wpAnyH_take (i := 5) (oi := { dst := some 22, op := Go.Op.slice 22 (Go.Operand.tmp 20) none (some (Go.Operand.tmp 21)) none, type := 22, pos := "ref.go:106", after := #[{ on := 3, ground := Go.Ground.data }, { on := 4, ground := Go.Ground.data }, { on := 2, ground := Go.Ground.guard }], guard := some (2, true) }) (v := .slice (some ⟨b, off, none⟩) i c) rfl (by kernel_rfl) (by kernel_rfl) (by kernel_rfl) (fun _ _ _ h => h) (Or.inl ⟨by rfl, ?_⟩) (by assumption) ?_
        · intro w9 hSw
          (try dsimp only at hSw)
          go_simp
        (try simp only [Act.put, List.setIfInBounds_toArray, List.set_cons_zero, List.set_cons_succ])
        refine wpAnyH_take (i := 6) (oi := { dst := some 23, op := Go.Op.move (Go.Operand.tmp 0), type := 22, pos := "ref.go:106", after := #[{ on := 2, ground := Go.Ground.guard }], guard := some (2, true) }) (v := .slice (some ⟨b, off, none⟩) n c) rfl (by kernel_rfl) (by kernel_rfl) (by kernel_rfl) (fun _ _ _ h => h) (Or.inl ⟨by rfl, ?_⟩) (by assumption) ?_
        · intro w9 hSw
          (try dsimp only at hSw)
          go_simp
        (try simp only [Act.put, List.setIfInBounds_toArray, List.set_cons_zero, List.set_cons_succ])
        refine wpAnyH_take (i := 7) (oi := { dst := some 24, op := Go.Op.move (Go.Operand.tmp 4), type := 3, pos := "ref.go:106", after := #[{ on := 2, ground := Go.Ground.guard }], guard := some (2, true) }) (v := .int .i64 (i : Int)) rfl (by kernel_rfl) (by kernel_rfl) (by kernel_rfl) (fun _ _ _ h => h) (Or.inl ⟨by rfl, ?_⟩) (by assumption) ?_
        · intro w9 hSw
          (try dsimp only at hSw)
          go_simp
        (try simp only [Act.put, List.setIfInBounds_toArray, List.set_cons_zero, List.set_cons_succ])
        refine wpAnyH_take (i := 8) (oi := { dst := some 25, op := Go.Op.indexAddr 22 (Go.Operand.tmp 23) (Go.Operand.tmp 24), type := 0, pos := "ref.go:106", after := #[{ on := 6, ground := Go.Ground.data }, { on := 7, ground := Go.Ground.data }, { on := 2, ground := Go.Ground.guard }], guard := some (2, true) }) (v := .pointer (some ⟨b, off + i * 9, none⟩)) rfl (by kernel_rfl) (by kernel_rfl) (by kernel_rfl) (fun _ _ _ h => h) (Or.inl ⟨by rfl, ?_⟩) (by assumption) ?_
        · intro w9 hSw
          (try dsimp only at hSw)
          go_simp
        (try simp only [Act.put, List.setIfInBounds_toArray, List.set_cons_zero, List.set_cons_succ])
        refine wpAnyH_take (i := 9) (oi := { dst := some 26, op := Go.Op.load 39 (Go.Operand.tmp 25), type := 39, pos := "ref.go:106", after := #[{ on := 8, ground := Go.Ground.data }, { on := 2, ground := Go.Ground.guard }], guard := some (2, true) }) (v := .agg #[.int .i64 e.kind, .int .i64 e.client, .int .i64 e.op, .bool e.put, .string e.key, .slice e.va e.vn e.vc, .int .i64 e.st, .int .i64 e.tx, .int .i64 e.ty]) rfl (by kernel_rfl) (by kernel_rfl) (by kernel_rfl) (fun _ _ _ h => h) (Or.inl ⟨by rfl, ?_⟩) (by assumption) ?_
        · intro w9 hSw
          (try dsimp only at hSw)
          go_simp
        (try simp only [Act.put, List.setIfInBounds_toArray, List.set_cons_zero, List.set_cons_succ])
        refine wpAnyH_ready (rs := [10]) (by kernel_rfl) (by simp) ?_
        refine (AllReadyH.cons (o := { dst := some 27, op := Go.Op.call { callee := Go.Callee.value (Go.Operand.func 42), args := #[Go.Operand.tmp 22, Go.Operand.tmp 26], argTypes := #[22, 39] }, type := 4, pos := "ref.go:106", after := #[{ on := 5, ground := Go.Ground.data }, { on := 9, ground := Go.Ground.data }, { on := 2, ground := Go.Ground.chain }, { on := 2, ground := Go.Ground.guard }], guard := some (2, true) }) rfl (fun K hK => ?_) AllReadyH.nil)
        go_simp
        refine (C42.out _ ((Kept.refl _ _).drew)).mono ?_
        rintro o w6 ⟨rfl, K6'⟩
        have K6 : Hid (Kept (fun _ => False) w w6) := (S5.out.trans (Kept.refl (fun _ => False) w5).drew (fun _ _ z => z)).trans K6' (fun _ _ z => z)
        have CC : Hid (w6.cell? ⟨b, off + i * 9, none⟩ = some (.int .i64 e.kind) ∧ w6.cell? ⟨b, off + i * 9 + 1, none⟩ = some (.int .i64 e.client) ∧ w6.cell? ⟨b, off + i * 9 + 2, none⟩ = some (.int .i64 e.op) ∧ w6.cell? ⟨b, off + i * 9 + 3, none⟩ = some (.bool e.put) ∧ w6.cell? ⟨b, off + i * 9 + 4, none⟩ = some (.string e.key) ∧ w6.cell? ⟨b, off + i * 9 + 5, none⟩ = some (.slice e.va e.vn e.vc) ∧ w6.cell? ⟨b, off + i * 9 + 6, none⟩ = some (.int .i64 e.st) ∧ w6.cell? ⟨b, off + i * 9 + 7, none⟩ = some (.int .i64 e.tx) ∧ w6.cell? ⟨b, off + i * 9 + 8, none⟩ = some (.int .i64 e.ty)) := ⟨K6'.cell d0 (fun z => z), K6'.cell d1 (fun z => z), K6'.cell d2 (fun z => z), K6'.cell d3 (fun z => z), K6'.cell d4 (fun z => z), K6'.cell d5 (fun z => z), K6'.cell d6 (fun z => z), K6'.cell d7 (fun z => z), K6'.cell d8 (fun z => z)⟩
        refine hK.out _ _ ?_ (fun hHeld => ?_)
        · exact CC.out
        clear hK K CC K6' d0 d1 d2 d3 d4 d5 d6 d7 d8 C42
        (try simp only [Act.put, List.setIfInBounds_toArray, List.set_cons_zero, List.set_cons_succ])
        refine wpAnyH_take (i := 11) (oi := { dst := some 28, op := Go.Op.unOp Go.UnOp.not 4 (Go.Operand.tmp 27), type := 4, pos := "ref.go:106", after := #[{ on := 10, ground := Go.Ground.data }, { on := 2, ground := Go.Ground.guard }], guard := some (2, true) }) (v := .bool (!sf)) rfl (by kernel_rfl) (by kernel_rfl) (by kernel_rfl) (fun _ _ _ h => h) (Or.inl ⟨by rfl, ?_⟩) (by assumption) ?_
        · intro w9 hSw
          (try dsimp only at hSw)
          go_simp
        (try simp only [Act.put, List.setIfInBounds_toArray, List.set_cons_zero, List.set_cons_succ])
        refine wpAnyH_take (i := 12) (oi := { dst := some 29, op := Go.Op.pick (Go.Operand.tmp 19) (Go.Operand.tmp 28) (Go.Operand.const (Go.Value.bool false)), type := 4, pos := "ref.go:106", after := #[{ on := 2, ground := Go.Ground.data }, { on := 11, ground := Go.Ground.data }], guard := none }) (v := .bool (!sf)) rfl (by kernel_rfl) (by kernel_rfl) (by kernel_rfl) (fun _ _ _ h => h) (Or.inl ⟨by rfl, ?_⟩) (by assumption) ?_
        · intro w9 hSw
          (try dsimp only at hSw)
          go_simp
        (try simp only [Act.put, List.setIfInBounds_toArray, List.set_cons_zero, List.set_cons_succ])
        refine wpAnyH_done (by kernel_rfl) ?_ _
        clear hHeld
        cases sf
        · have F : Hid (((i : Int), (80 : Int)) = chkE es noM 0 ∧ Kept (fun _ => False) w w6) := by
            refine ⟨?_, K6.out⟩
            rw [chk_at HE.out.1 S.out.2, if_neg (by simp [HE.out.2]), if_pos MY.out]
          clear S MY S5
          go_wp2_with fail
          go_ret2
          exact RetI2.mk (i : Int) 80 rfl F.out
        · have N : Hid (Kept (fun _ => False) w w6 ∧ chkE (es.take (i + 1)) noM 0 = (-1, 0)) := ⟨K6.out, chk_next HE.out.1 S.out.2 HE.out.2 MY.out⟩
          clear S MY S5
          go_wp2_with fail
          go_roundw
          case rel => exact ⟨i + 1, by go_num, by omega, N⟩
          case measure => simp [intOf] <;> omega
      · have q0 : (fe == 0) = false := by simp [hf]
        have q1 : (fe != 0) = true := by simp [hf]
        have F : Hid (∀ m, ((i : Int), fe) = chkE es noM 0 ∧ Kept (fun _ => False) w (w5.drewN m)) := fun m => ⟨by rw [chk_at HE.out.1 S.out.2, if_pos (by rw [HE.out.2]; exact hf), HE.out.2], S5.out.drewN m⟩
        clear S S5 d0 d1 d2 d3 d4 d5 d6 d7 d8
        go_upto_region 5 with fail
        go_quiet (fail)
        go_wp2_with fail
        go_ret2
        exact RetI2.mk (i : Int) fe rfl (F.out _)
    · have lti : ¬ (i : Int) < (n : Int) := by omega
      obtain rfl : i = n := by omega
      have F : Hid (((-1 : Int), (0 : Int)) = chkE es noM 0 ∧ Kept (fun _ => False) w wo) := by
        refine ⟨?_, S.out.1⟩
        have r := S.out.2
        rw [List.take_of_length_le (by rw [H.out.len]; exact Nat.le_refl _)] at r
        exact r.symm
      clear S
      go_wp2_with fail
      go_ret2
      exact RetI2.mk (-1) 0 rfl F.out
end Go.Proofs.YtbangbobfeflcaaGreatDoor
