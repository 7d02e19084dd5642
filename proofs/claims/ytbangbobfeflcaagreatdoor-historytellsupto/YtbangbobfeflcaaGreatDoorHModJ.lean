import Derived.Test.YtbangbobfeflcaaGreatDoorHGrqJ
import Derived.Deep.Cut
import Derived.Deep.RegionHeldLaw
import Derived.BigQuiet
namespace Go.Proofs.YtbangbobfeflcaaGreatDoor
open Go.RowKit 

theorem key_op {e : Ev} (h1 : KI e.client) (h2 : KI e.op) : opF (keyE e) := ⟨h1, h2⟩
set_option maxRecDepth 100000 in
set_option maxHeartbeats 4000000 in
theorem hGroup {w : World} {p0 : Option Addr} {n0 c0 : Nat} {es : List Ev} (er : ERd w p0 n0 c0 es) (hb : n0 ≤ 1500000000000) (ck : ∀ e ∈ es, KI e.client ∧ KI e.op) : Calls Tryz.prog 43 #[.slice p0 n0 c0, .func (.func 44) #[] #[]] w fun o w' => ∃ mb, o = .returned (.map (some mb)) ∧ Hid (GS w es mb n0 w') := by
  have rm := er.room
  have sm := er.small
  unfold maxLen at sm
  have H : Hid (ERd w p0 n0 c0 es ∧ n0 ≤ 1500000000000 ∧ ∀ e ∈ es, KI e.client ∧ KI e.op) := ⟨er, hb, ck⟩
  obtain ⟨mb, hmb⟩ : ∃ mb, mb = w.heap.size := ⟨_, rfl⟩
  obtain ⟨W0, hW0⟩ : ∃ W0, W0 = w.alloc (.map #[] 0) := ⟨_, rfl⟩
  have S0 : Hid (GS w es mb 0 W0) := by
    refine ⟨⟨0, fun _ => none, ?_, Nat.le_refl _, fun k _ => rfl, fun k s h => (by cases h), fun k k' s s' j h => (by cases h)⟩, by rw [hW0]; exact (Kept.refl _ _).alloc _, by omega, by rw [hW0, alloc_size]; omega⟩
    rw [hW0, hmb]
    exact TM.made w
  have E0 : Hid (mb = w.heap.size ∧ W0 = w.alloc (.map #[] 0)) := ⟨hmb, hW0⟩
  clear er hb ck hmb hW0
  have mk := run_makeMap (P := Tryz.prog) 75 w
  go_enter Tryz.func43, Tryz.ntmps43
  go_wp2_with fail
  rw [← E0.out.2, ← E0.out.1]
  go_loopw [6, 7, 8, 12] (fun _ _ _ u12 wr => ∃ i : Nat, u12 = .int .i64 (i : Int) ∧ i ≤ n0 ∧ Hid (GS w es mb i wr)) (fun _ _ _ u12 _ => n0 - (intOf u12).toNat)
  case atStart => exact ⟨0, rfl, Nat.zero_le _, S0⟩
  case round =>
    obtain ⟨i, rfl, hi, S⟩ := hrel
    clear S0
    obtain ⟨wo, hwo⟩ : ∃ wo, wo = wr := ⟨_, rfl⟩
    rw [← hwo] at S ⊢
    clear hwo
    by_cases hlt : i < n0
    · have i1 : (i : Int) < (n0 : Int) := by omega
      obtain ⟨b, off, e, rfl, he, c0', c1, c2, c3, c4, c5, c6, c7, c8, rd⟩ := (H.out.1.k0 S.out.kept).at hlt
      obtain ⟨W, hW⟩ : ∃ W, W = wo.alloc (.cells #[.int .i64 e.kind, .int .i64 e.client, .int .i64 e.op, .bool e.put, .string e.key, .slice e.va e.vn e.vc, .int .i64 e.st, .int .i64 e.tx, .int .i64 e.ty] 39) := ⟨_, rfl⟩
      obtain ⟨B, hB⟩ : ∃ B, B = wo.heap.size := ⟨_, rfl⟩
      have J : Hid (W.heap[B]? = some (.cells #[.int .i64 e.kind, .int .i64 e.client, .int .i64 e.op, .bool e.put, .string e.key, .slice e.va e.vn e.vc, .int .i64 e.st, .int .i64 e.tx, .int .i64 e.ty] 39 (0, 0)) ∧ Kept (fun _ => False) wo W) := ⟨by rw [hW, hB]; exact alloc_new _ _, by rw [hW]; exact (Kept.refl _ _).alloc _⟩
      have EW : Hid (W = wo.alloc (.cells #[.int .i64 e.kind, .int .i64 e.client, .int .i64 e.op, .bool e.put, .string e.key, .slice e.va e.vn e.vc, .int .i64 e.st, .int .i64 e.tx, .int .i64 e.ty] 39) ∧ B = wo.heap.size) := ⟨hW, hB⟩
      have HE : Hid (es[i]? = some e) := he
      have CO : Hid (∀ V, Calls Tryz.prog 44 #[.agg #[.int .i64 e.kind, .int .i64 e.client, .int .i64 e.op, .bool e.put, .string e.key, .slice e.va e.vn e.vc, .int .i64 e.st, .int .i64 e.tx, .int .i64 e.ty]] V fun o w' => o = .returned (.agg #[.int .i64 e.client, .int .i64 e.op]) ∧ Kept (fun _ => False) V w') := fun V => hOper e V
      clear hW hB he rd
      go_upto_region 5 with fail
      rw [← EW.out.1, ← EW.out.2]
      clear c0' c1 c2 c3 c4 c5 c6 c7 c8 EW
      have c0 := cell_blk J.out.1 0 (v := .int .i64 e.kind) rfl
      have c1 := cell_blk J.out.1 1 (v := .int .i64 e.client) rfl
      have c2 := cell_blk J.out.1 2 (v := .int .i64 e.op) rfl
      have c3 := cell_blk J.out.1 3 (v := .bool e.put) rfl
      have c4 := cell_blk J.out.1 4 (v := .string e.key) rfl
      have c5 := cell_blk J.out.1 5 (v := .slice e.va e.vn e.vc) rfl
      have c6 := cell_blk J.out.1 6 (v := .int .i64 e.st) rfl
      have c7 := cell_blk J.out.1 7 (v := .int .i64 e.tx) rfl
      have c8 := cell_blk J.out.1 8 (v := .int .i64 e.ty) rfl
      go_wp2_with fail
      refine (CO.out _).mono ?_
      rintro o w2 ⟨rfl, K2'⟩
      have K2 : Hid (Kept (fun _ => False) wo w2) := J.out.2.trans K2' (fun _ _ z => z)
      clear K2' CO c0 c1 c2 c3 c4 c5 c6 c7 c8
      obtain ⟨X2, hX2⟩ : ∃ X2, X2 = w2.alloc (.cells #[.int .i64 e.client, .int .i64 e.op] 78) := ⟨_, rfl⟩
      obtain ⟨B8, hB8⟩ : ∃ B8, B8 = w2.heap.size := ⟨_, rfl⟩
      have KX2 : Hid (Kept (fun _ => False) wo X2) := by rw [hX2]; exact K2.out.alloc _
      have BX : Hid (X2.heap[B8]? = some (.cells #[.int .i64 e.client, .int .i64 e.op] 78 (0, 0))) := by rw [hX2, hB8]; exact alloc_new _ _
      have EX : Hid (X2 = w2.alloc (.cells #[.int .i64 e.client, .int .i64 e.op] 78) ∧ B8 = w2.heap.size) := ⟨hX2, hB8⟩
      obtain ⟨n, Mp, tm, hn, h1, h2, h3⟩ := S.out.ok
      obtain ⟨s, hs⟩ : ∃ s, s = (Mp (keyE e)).getD ⟨none, 0, 0⟩ := ⟨_, rfl⟩
      have HS : Hid (s = (Mp (keyE e)).getD ⟨none, 0, 0⟩) := hs
      have F : Hid (n ≤ i ∧ (∀ k, Mp k = none → placesE (es.take i) k = []) ∧ (∀ k s, Mp k = some s → wo.ownsRow w.heap.size 3 1 (.slice s.p s.n s.c) s.n (intsN (placesE (es.take i) k)) ∧ s.n = (placesE (es.take i) k).length ∧ ¬ blockOf s.p = some mb ∧ 0 < s.n) ∧ (∀ k k' s s' j, Mp k = some s → Mp k' = some s' → k ≠ k' → blockOf s.p = some j → ¬ blockOf s'.p = some j) ∧ Kept (fun _ => False) w wo ∧ (w.heap.size ≤ mb ∧ mb < wo.heap.size)) := ⟨hn, h1, h2, h3, S.out.kept, S.out.mb⟩
      have OPF : Hid (opF (keyE e)) := key_op (H.out.2.2 e (List.mem_of_getElem? HE.out)).1 (H.out.2.2 e (List.mem_of_getElem? HE.out)).2
      obtain ⟨X, hX⟩ : ∃ X, X = X2.drew := ⟨_, rfl⟩
      have KX : Hid (Kept (fun _ => False) wo X) := by rw [hX]; exact KX2.out.drew
      obtain ⟨Y, hY⟩ : ∃ Y, Y = (X2.alloc (.cells #[.int .i64 (i : Int)] 3)).drew := ⟨_, rfl⟩
      have KXY : Hid (Kept (fun _ => False) X Y) := by
        have q : Kept (fun _ => False) X2 (X2.alloc (.cells #[.int .i64 (i : Int)] 3)).drew := ((Kept.refl _ _).alloc _).drew
        rw [hY, hX]
        exact ⟨q.os, q.tape, q.output, q.size, q.block⟩
      have KY : Hid (Kept (fun _ => False) wo Y) := KX.out.trans KXY.out (fun _ _ z => z)
      have OW0 : wo.ownsRow w.heap.size 3 1 (.slice s.p s.n s.c) s.n (intsN (placesE (es.take i) (keyE e))) ∧ (s.n ≤ i) ∧ ¬ blockOf s.p = some mb := by
        have hil := (List.getElem?_eq_some_iff.1 HE.out).1
        have pl : (placesE (es.take i) (keyE e)).length ≤ i := by
          refine Nat.le_trans (List.length_filter_le _ _) ?_
          rw [List.length_range, List.length_take]
          omega
        cases hq : Mp (keyE e) with
        | none =>
          rw [hq] at hs
          rw [hs, h1 _ hq]
          exact ⟨⟨rfl, .inl ⟨rfl, rfl⟩⟩, Nat.zero_le _, fun z => (by cases z)⟩
        | some s' =>
          rw [hq] at hs
          have hs : s = s' := hs
          rw [hs]
          obtain ⟨r1, r2, r3, _⟩ := h2 _ _ hq
          exact ⟨r1, by rw [r2]; exact pl, r3⟩
      have OWN : Hid (Y.ownsRow w.heap.size 3 1 (.slice s.p s.n s.c) s.n (intsN (placesE (es.take i) (keyE e)))) := KY.out.owns OW0.1 (fun _ _ z => z)
      have SRC : Hid (Src Tryz.prog 1 70 (.slice (some ⟨X2.heap.size, 0, none⟩) 1 1) 1 (intsN [i]) Y) := by
        rw [hY]
        exact src_one (alloc_new X2 _)
      have LN : Hid (s.n + 1 ≤ maxLen ∧ ((s.n + 1) + (s.n + 1) / 4 + 192) * 8 ≤ 281474976710656) := by
        have q1 := OW0.2.1
        have q2 := H.out.2.1
        unfold maxLen
        exact ⟨by omega, by omega⟩
      have LB : Hid (w.heap.size ≤ Y.heap.size) := Nat.le_trans S.out.kept.size KY.out.size
      have bX : X.heap[B8]? = some (.cells #[.int .i64 e.client, .int .i64 e.op] 78 (0, 0)) := by rw [hX]; exact BX.out
      have CB : Hid (∀ V, Kept (fun _ => False) X V → V.cell? ⟨B8, 0, none⟩ = some (.int .i64 e.client) ∧ V.cell? ⟨B8, 1, none⟩ = some (.int .i64 e.op)) := fun V kv => by
        have bv := kv.get bX (fun z => z)
        exact ⟨cell_blk bv 0 rfl, cell_blk bv 1 rfl⟩
      have NB : Hid (¬ B8 = mb) := by
        have q := S.out.mb.2
        have q2 := K2.out.size
        show ¬ B8 = mb
        omega
      have B8s : Hid (∀ j, blockOf s.p = some j → j < wo.heap.size) := fun j z => (own_lt OW0.1 j z).2
      have TMK : Hid (∀ w9, Y.grownBy w9 (Value.slice s.p s.n s.c).ownBlock → TM 78 opL opF Sl.v RSl w9 mb n Mp ∧ n < maxLen ∧ (w9.cell? ⟨B8, 0, none⟩ = some (.int .i64 e.client) ∧ w9.cell? ⟨B8, 1, none⟩ = some (.int .i64 e.op))) := by
        intro w9 hg
        have KG : Kept (fun j => blockOf s.p = some j) Y w9 := (Kept.refl _ Y).grown hg (fun j _ z => by rw [blockOf_own] at z; exact z)
        have cy := CB.out Y KXY.out
        have nb : ¬ blockOf s.p = some B8 := fun z => by
          have q := B8s.out B8 z
          have q2 := K2.out.size
          omega
        refine ⟨(tm.kept KY.out (fun z => z)).kept KG OW0.2.2, ?_, KG.cell cy.1 nb, KG.cell cy.2 nb⟩
        have q2 := H.out.2.1
        unfold maxLen
        omega
      have lk := (tm.kept KX.out (fun z => z)).look opK OPF.out
      have lky := (tm.kept KY.out (fun z => z)).look opK OPF.out
      rw [← hs] at lk lky
      have lk : (Instr.lookup 75 (.map (some mb)) (.agg #[.int .i64 e.client, .int .i64 e.op]) false).run Tryz.prog X = .ok (.slice s.p s.n s.c) X := lk
      have lky : (Instr.lookup 75 (.map (some mb)) (.agg #[.int .i64 e.client, .int .i64 e.op]) false).run Tryz.prog Y = .ok (.slice s.p s.n s.c) Y := lky
      have kx : Kept (fun _ => False) X Y := KXY.out
      have kd : Kept (fun _ => False) X X := Kept.refl _ _
      clear tm hn h1 h2 h3 hs OW0 bX S hX2 hB8
      go_upto_region 6 with fail
      rw [← EX.out.1, ← EX.out.2]
      subst hY
      subst hX
      refine wp_region_held_drew (S := (fun V => V.cell? ⟨B8, 0, none⟩ = some (.int .i64 e.client) ∧ V.cell? ⟨B8, 1, none⟩ = some (.int .i64 e.op))) (by kernel_rfl) ?_ (fun hHeld => ?_)
      · exact CB.out _ kd
      refine wpAnyH_take (i := 0) (oi := { dst := some 20, op := Go.Op.move (Go.Operand.tmp 5), type := 75, pos := "history.go:106", after := #[], guard := none }) (v := .map (some mb)) rfl (by kernel_rfl) (by kernel_rfl) (by kernel_rfl) (fun _ _ _ h => h) (Or.inl ⟨by rfl, ?_⟩) (by assumption) ?_
      · intro w9 hSw
        (try dsimp only at hSw)
        go_simp
      (try simp only [Act.put, List.setIfInBounds_toArray, List.set_cons_zero, List.set_cons_succ])
      refine wpAnyH_take (i := 1) (oi := { dst := some 21, op := Go.Op.load 78 (Go.Operand.tmp 8), type := 78, pos := "history.go:106", after := #[], guard := none }) (v := .agg #[.int .i64 e.client, .int .i64 e.op]) rfl (by kernel_rfl) (by kernel_rfl) (by kernel_rfl) (fun _ _ _ h => h) (Or.inl ⟨by rfl, ?_⟩) (by assumption) ?_
      · intro w9 hSw
        (try dsimp only at hSw)
        go_simp
      (try simp only [Act.put, List.setIfInBounds_toArray, List.set_cons_zero, List.set_cons_succ])
      refine wpAnyH_take (i := 2) (oi := { dst := some 22, op := Go.Op.move (Go.Operand.tmp 5), type := 75, pos := "history.go:106", after := #[], guard := none }) (v := .map (some mb)) rfl (by kernel_rfl) (by kernel_rfl) (by kernel_rfl) (fun _ _ _ h => h) (Or.inl ⟨by rfl, ?_⟩) (by assumption) ?_
      · intro w9 hSw
        (try dsimp only at hSw)
        go_simp
      (try simp only [Act.put, List.setIfInBounds_toArray, List.set_cons_zero, List.set_cons_succ])
      refine wpAnyH_take (i := 3) (oi := { dst := some 23, op := Go.Op.load 78 (Go.Operand.tmp 8), type := 78, pos := "history.go:106", after := #[], guard := none }) (v := .agg #[.int .i64 e.client, .int .i64 e.op]) rfl (by kernel_rfl) (by kernel_rfl) (by kernel_rfl) (fun _ _ _ h => h) (Or.inl ⟨by rfl, ?_⟩) (by assumption) ?_
      · intro w9 hSw
        (try dsimp only at hSw)
        go_simp
      (try simp only [Act.put, List.setIfInBounds_toArray, List.set_cons_zero, List.set_cons_succ])
      refine wpAnyH_take (i := 5) (oi := { dst := some 25, op := Go.Op.move (Go.Operand.tmp 6), type := 3, pos := "history.go:106", after := #[], guard := none }) (v := .int .i64 (i : Int)) rfl (by kernel_rfl) (by kernel_rfl) (by kernel_rfl) (fun _ _ _ h => h) (Or.inl ⟨by rfl, ?_⟩) (by assumption) ?_
      · intro w9 hSw
        (try dsimp only at hSw)
        go_simp
      (try simp only [Act.put, List.setIfInBounds_toArray, List.set_cons_zero, List.set_cons_succ])
      refine wpAnyH_ready (rs := [4, 6]) (by kernel_rfl) (by simp) ?_
      refine (AllReadyH.cons (o := { dst := some 24, op := Go.Op.lookup 75 (Go.Operand.tmp 22) (Go.Operand.tmp 23) false, type := 70, pos := "history.go:106", after := #[{ on := 2, ground := Go.Ground.data }, { on := 3, ground := Go.Ground.data }], guard := none }) rfl (fun K hK => ?_) (AllReadyH.cons (o := { dst := some 26, op := Go.Op.buildSlice 70 1 #[(0, Go.Operand.tmp 25)], type := 70, pos := "history.go:106", after := #[{ on := 5, ground := Go.Ground.data }], guard := none }) rfl (fun K hK => ?_) AllReadyH.nil))
      · go_simp
        refine hK.out _ _ ?_ (fun hHeld => ?_)
        · exact CB.out _ kd
        clear hK K
        (try simp only [Act.put, List.setIfInBounds_toArray, List.set_cons_zero, List.set_cons_succ])
        refine wpAnyH_ready (rs := [6]) (by kernel_rfl) (by simp) ?_
        refine (AllReadyH.cons (o := { dst := some 26, op := Go.Op.buildSlice 70 1 #[(0, Go.Operand.tmp 25)], type := 70, pos := "history.go:106", after := #[{ on := 5, ground := Go.Ground.data }], guard := none }) rfl (fun K hK => ?_) AllReadyH.nil)
        go_simp
        refine hK.out _ _ ?_ (fun hHeld => ?_)
        · exact CB.out _ kx
        clear hK K
        (try simp only [Act.put, List.setIfInBounds_toArray, List.set_cons_zero, List.set_cons_succ])
        refine wpAnyH_ready (rs := [7]) (by kernel_rfl) (by simp) ?_
        refine (AllReadyH.cons (o := { dst := some 27, op := Go.Op.call { callee := Go.Callee.builtin Go.Builtin.append, args := #[Go.Operand.tmp 24, Go.Operand.tmp 26], argTypes := #[70, 70] }, type := 70, pos := "history.go:106", after := #[{ on := 4, ground := Go.Ground.data }, { on := 6, ground := Go.Ground.data }], guard := none }) rfl (fun K hK => ?_) AllReadyH.nil)
        refine step_append_ints _ rfl (.tmp 24) (.tmp 26) rfl w.heap.size (.slice s.p s.n s.c) s.n (intsN (placesE (es.take i) (keyE e))) rfl OWN.out _ 1 (intsN [i]) rfl SRC.out LN.out.1 LN.out.2 LB.out ?_
        intro p9 c9 w9 ho hg hn9
        have T9 := TMK.out w9 hg.out
        refine hK.out _ _ ?_ (fun hHeld => ?_)
        · exact T9.2.2
        clear hK K
        (try simp only [Act.put, List.setIfInBounds_toArray, List.set_cons_zero, List.set_cons_succ])
        refine wpAnyH_ready (rs := [8]) (by kernel_rfl) (by simp) ?_
        refine (AllReadyH.cons (o := { dst := none, op := Go.Op.mapUpdate 75 (Go.Operand.tmp 20) (Go.Operand.tmp 21) (Go.Operand.tmp 27), type := 0, pos := "history.go:106", after := #[{ on := 0, ground := Go.Ground.data }, { on := 1, ground := Go.Ground.data }, { on := 7, ground := Go.Ground.data }, { on := 7, ground := Go.Ground.chain }, { on := 0, ground := Go.Ground.phase }, { on := 1, ground := Go.Ground.phase }, { on := 2, ground := Go.Ground.phase }, { on := 3, ground := Go.Ground.phase }, { on := 4, ground := Go.Ground.phase }, { on := 5, ground := Go.Ground.phase }, { on := 6, ground := Go.Ground.phase }, { on := 7, ground := Go.Ground.phase }], guard := none }) rfl (fun K hK => ?_) AllReadyH.nil)
        refine step_put opK _ rfl (.tmp 20) (.tmp 21) (.tmp 27) rfl mb n Mp rfl T9.1 T9.2.1 (keyE e) OPF.out ⟨p9, s.n + 1, c9⟩ rfl rfl ?_
        intro wz htz hkz
        refine hK.out _ _ ?_ (fun hHeld => ?_)
        · exact ⟨hkz.out.cell T9.2.2.1 NB.out, hkz.out.cell T9.2.2.2 NB.out⟩
        clear hK K
        (try simp only [Act.put])
        refine wpAnyH_done (by kernel_rfl) ?_ _
        have NX : Hid (GS w es mb (i + 1) wz) := GS.step F.out.1 F.out.2.1 F.out.2.2.1 F.out.2.2.2.1 F.out.2.2.2.2.1 F.out.2.2.2.2.2 KY.out HE.out HS.out ho.out hg.out hn9.out htz.out hkz.out
        clear ho hg hn9 htz hkz T9
        go_wp2_with fail
        go_roundw
        case rel => exact ⟨i + 1, by go_num, by omega, NX⟩
        case measure => simp [intOf] <;> omega
      · go_simp
        refine hK.out _ _ ?_ (fun hHeld => ?_)
        · exact CB.out _ kx
        clear hK K
        (try simp only [Act.put, List.setIfInBounds_toArray, List.set_cons_zero, List.set_cons_succ])
        refine wpAnyH_ready (rs := [4]) (by kernel_rfl) (by simp) ?_
        refine (AllReadyH.cons (o := { dst := some 24, op := Go.Op.lookup 75 (Go.Operand.tmp 22) (Go.Operand.tmp 23) false, type := 70, pos := "history.go:106", after := #[{ on := 2, ground := Go.Ground.data }, { on := 3, ground := Go.Ground.data }], guard := none }) rfl (fun K hK => ?_) AllReadyH.nil)
        go_simp
        refine hK.out _ _ ?_ (fun hHeld => ?_)
        · exact CB.out _ kx
        clear hK K
        (try simp only [Act.put, List.setIfInBounds_toArray, List.set_cons_zero, List.set_cons_succ])
        refine wpAnyH_ready (rs := [7]) (by kernel_rfl) (by simp) ?_
        refine (AllReadyH.cons (o := { dst := some 27, op := Go.Op.call { callee := Go.Callee.builtin Go.Builtin.append, args := #[Go.Operand.tmp 24, Go.Operand.tmp 26], argTypes := #[70, 70] }, type := 70, pos := "history.go:106", after := #[{ on := 4, ground := Go.Ground.data }, { on := 6, ground := Go.Ground.data }], guard := none }) rfl (fun K hK => ?_) AllReadyH.nil)
        refine step_append_ints _ rfl (.tmp 24) (.tmp 26) rfl w.heap.size (.slice s.p s.n s.c) s.n (intsN (placesE (es.take i) (keyE e))) rfl OWN.out _ 1 (intsN [i]) rfl SRC.out LN.out.1 LN.out.2 LB.out ?_
        intro p9 c9 w9 ho hg hn9
        have T9 := TMK.out w9 hg.out
        refine hK.out _ _ ?_ (fun hHeld => ?_)
        · exact T9.2.2
        clear hK K
        (try simp only [Act.put, List.setIfInBounds_toArray, List.set_cons_zero, List.set_cons_succ])
        refine wpAnyH_ready (rs := [8]) (by kernel_rfl) (by simp) ?_
        refine (AllReadyH.cons (o := { dst := none, op := Go.Op.mapUpdate 75 (Go.Operand.tmp 20) (Go.Operand.tmp 21) (Go.Operand.tmp 27), type := 0, pos := "history.go:106", after := #[{ on := 0, ground := Go.Ground.data }, { on := 1, ground := Go.Ground.data }, { on := 7, ground := Go.Ground.data }, { on := 7, ground := Go.Ground.chain }, { on := 0, ground := Go.Ground.phase }, { on := 1, ground := Go.Ground.phase }, { on := 2, ground := Go.Ground.phase }, { on := 3, ground := Go.Ground.phase }, { on := 4, ground := Go.Ground.phase }, { on := 5, ground := Go.Ground.phase }, { on := 6, ground := Go.Ground.phase }, { on := 7, ground := Go.Ground.phase }], guard := none }) rfl (fun K hK => ?_) AllReadyH.nil)
        refine step_put opK _ rfl (.tmp 20) (.tmp 21) (.tmp 27) rfl mb n Mp rfl T9.1 T9.2.1 (keyE e) OPF.out ⟨p9, s.n + 1, c9⟩ rfl rfl ?_
        intro wz htz hkz
        refine hK.out _ _ ?_ (fun hHeld => ?_)
        · exact ⟨hkz.out.cell T9.2.2.1 NB.out, hkz.out.cell T9.2.2.2 NB.out⟩
        clear hK K
        (try simp only [Act.put])
        refine wpAnyH_done (by kernel_rfl) ?_ _
        have NX : Hid (GS w es mb (i + 1) wz) := GS.step F.out.1 F.out.2.1 F.out.2.2.1 F.out.2.2.2.1 F.out.2.2.2.2.1 F.out.2.2.2.2.2 KY.out HE.out HS.out ho.out hg.out hn9.out htz.out hkz.out
        clear ho hg hn9 htz hkz T9
        go_wp2_with fail
        go_roundw
        case rel => exact ⟨i + 1, by go_num, by omega, NX⟩
        case measure => simp [intOf] <;> omega
    · have i1 : ¬ (i : Int) < (n0 : Int) := by omega
      have ei : n0 = i := by omega
      subst ei
      go_wp2_with fail
      go_ret
      exact ⟨mb, rfl, S⟩
end Go.Proofs.YtbangbobfeflcaaGreatDoor

namespace Go.Proofs.YtbangbobfeflcaaGreatDoor
open Go.RowKit 

/-- A copy of bytes, of one's own. -/
structure Cl5 (w : World) (l : List Nat) (p : Option Addr) (n c : Nat) (w' : World) : Prop where
  row : w'.ownsRow w.heap.size 5 1 (.slice p n c) n (cellsOf l)
  rd : Reads w' p n c l
  kept : Kept (fun _ => False) w w'
def RetL (Q : Option Addr → Nat → World → Prop) (n : Nat) (o : Ending) (w : World) : Prop := ∃ p c, o = .returned (.slice p n c) ∧ Q p c w
theorem RetL.mk {Q : Option Addr → Nat → World → Prop} {n : Nat} {o : Ending} {w : World} (p : Option Addr) (c : Nat) (h : o = .returned (.slice p n c)) (hq : Q p c w) : RetL Q n o w := ⟨p, c, h, hq⟩
theorem reads_own {w : World} {base n : Nat} {p : Option Addr} {c : Nat} {l : List Nat} (h : w.ownsRow base 5 1 (.slice p n c) n (cellsOf l)) (hb : ∀ x ∈ l, x < 256) : Reads w p n c l := by
  obtain ⟨a', cap', e', rd, _⟩ := owns_reads h hb
  simp at e'
  obtain ⟨rfl, rfl⟩ := e'
  exact rd
set_option maxRecDepth 100000 in
theorem hClone {w : World} {a : Option Addr} {n c : Nat} {l : List Nat} (r : Reads w a n c l) (hn : n + 1 ≤ 140737488355328) : Calls Tryz.prog 40 #[.slice a n c] w (RetL (fun p c' w' => Cl5 w l p n c' w') n) := by
  have H : Hid (Reads w a n c l) := r
  have rm := r.room
  have sm := r.small
  unfold maxLen at sm
  clear r
  go_enter Tryz.func40, Tryz.ntmps40
  cases a with
  | none =>
    have n0 : n = 0 := by
      refine Classical.byContradiction (fun z => ?_)
      obtain ⟨b, off, e, _⟩ := H.out.cells (by omega)
      cases e
    subst n0
    have l0 : l = [] := List.length_eq_zero_iff.1 H.out.length
    subst l0
    have F : Hid (Cl5 w [] none 0 0 w) := ⟨⟨rfl, .inl ⟨rfl, rfl⟩⟩, Reads.nil w, Kept.refl _ _⟩
    have nn := nil_none c w
    go_wp2_with fail
    go_ret
    exact RetL.mk none 0 (by first | rfl | simp) F.out
  | some ad =>
    have S : Hid ((w.alloc (.cells #[] 5)).ownsRow w.heap.size 5 1 (.slice (some ⟨w.heap.size, 0, none⟩) 0 0) 0 (cellsOf []) ∧ Reads (w.alloc (.cells #[] 5)) (some ad) n c l ∧ Kept (fun _ => False) w (w.alloc (.cells #[] 5))) := by
      have K : Kept (fun _ => False) w (w.alloc (.cells #[] 5)) := (Kept.refl _ _).alloc _
      exact ⟨⟨rfl, .inr ⟨w.heap.size, 0, #[], rfl, Nat.le_refl _, alloc_new _ _, Nat.le_refl _, by unfold maxLen; omega, rfl, rfl⟩⟩, Reads.kept K H.out (fun _ _ z => z), K⟩
    have ns := nil_some ad n c w
    go_upto_region 3 with fail
    go_wp2_with
      (first
        | (at_builtin; refine wpList_append_bytes _ rfl (.tmp 5) (.tmp 6) rfl w.heap.size (.slice (some ⟨w.heap.size, 0, none⟩) 0 0) 0 [] rfl S.out.1 _ n l rfl S.out.2.1.src (by omega) S.out.2.2.size ?_; intro p9 c9 w9 ho hg hn9)
        | fail)
    have F : Hid (Cl5 w l p9 n c9 w9) := by
      have o9 := ho.out
      rw [Nat.zero_add, List.nil_append] at o9
      refine ⟨o9, reads_own o9 H.out.bytes, ?_⟩
      exact Kept.own S.out.2.2 ((Kept.refl (fun j => j = w.heap.size) _).grown hg.out (fun j _ z => by rw [blockOf_own] at z; exact (Option.some.inj z).symm)) (fun b z => by have z : b = w.heap.size := z; omega)
    clear ho hg hn9
    go_wp2_with fail
    go_ret
    exact RetL.mk p9 c9 (by first | rfl | simp) F.out
end Go.Proofs.YtbangbobfeflcaaGreatDoor

namespace Go.Proofs.YtbangbobfeflcaaGreatDoor
open Go.RowKit 

theorem str_inj {l m : List Nat} (hl : ∀ c ∈ l, c < 256) (hm : ∀ c ∈ m, c < 256) (h : str l = str m) : l = m := by
  unfold str at h
  have h : (l.map UInt8.ofNat).toArray = (m.map UInt8.ofNat).toArray := congrArg ByteArray.data h
  have h : l.map UInt8.ofNat = m.map UInt8.ofNat := by simpa using h
  have inj : ∀ (l m : List Nat), (∀ c ∈ l, c < 256) → (∀ c ∈ m, c < 256) → l.map UInt8.ofNat = m.map UInt8.ofNat → l = m := by
    intro l
    induction l with
    | nil => intro m _ _ h; cases m with
      | nil => rfl
      | cons b m => simp at h
    | cons a l ih =>
      intro m hl hm h
      cases m with
      | nil => simp at h
      | cons b m =>
        rw [List.map_cons, List.map_cons] at h
        injection h with h1 h2
        have ha := hl a (by simp)
        have hb := hm b (by simp)
        have e : a = b := by
          have := congrArg UInt8.toNat h1
          simp at this
          omega
        rw [e, ih m (fun c hc => hl c (by simp [hc])) (fun c hc => hm c (by simp [hc])) h2]
  exact inj l m hl hm h
theorem str_eq {l m : List Nat} (hl : ∀ c ∈ l, c < 256) (hm : ∀ c ∈ m, c < 256) : ((str l).toList == (str m).toList) = decide (l = m) := by
  by_cases h : l = m
  · rw [h, decide_eq_true rfl]
    exact beq_self_eq_true _
  · rw [decide_eq_false h]
    refine beq_false_of_ne fun z => h (str_inj hl hm ?_)
    rw [ba_toList, ba_toList] at z
    have : (str l).data = (str m).data := Array.toList_inj.1 z
    cases hs : str l
    cases ht : str m
    rw [hs, ht] at this
    exact congrArg ByteArray.mk this
theorem hSame {w : World} {a b : Option Addr} {n c m e : Nat} {l k : List Nat} (h1 : Reads w a n c l) (h2 : Reads w b m e k) : Calls Tryz.prog 28 #[.slice a n c, .slice b m e] w fun o w' => o = .returned (.bool (decide (l = k))) ∧ Kept (fun _ => False) w w' := by
  have c1 := h1.string
  have c2 := h2.string
  obtain ⟨q, hq⟩ : ∃ q, q = decide (l = k) := ⟨_, rfl⟩
  have e1 : ((str l).toList == (str k).toList) = q := by rw [hq]; exact str_eq h1.bytes h2.bytes
  rw [← hq]
  clear h1 h2 hq
  go_enter Tryz.func28, Tryz.ntmps28
  go_wp2_with fail
  go_ret
  exact ⟨by first | rfl | simp, Kept.refl _ _⟩
end Go.Proofs.YtbangbobfeflcaaGreatDoor
