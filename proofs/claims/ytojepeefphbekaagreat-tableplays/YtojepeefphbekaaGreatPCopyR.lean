import Derived.Test.YtojepeefphbekaaGreatPSimJ
import Derived.Deep.CutRange
namespace Go.Proofs.YtojepeefphbekaaGreat
open Go.RowKit 

/-- The copy's rows so far. -/
structure CS (w wr : World) (nb : Nat) (delta : Int) (j : Nat) (vs : List Uv) : Prop where
  tab : ∃ p c M, RTab w.heap.size wr nb delta p j c M vs ∧ ∀ u ∈ M, ∀ k, blockOf u.2.2.2.2.1 = some k → w.heap.size ≤ k
  kept : Kept (fun _ => False) w wr
  far : w.heap.size ≤ nb
set_option maxRecDepth 100000 in
set_option maxHeartbeats 16000000 in
/-- Copy of the document's table. -/
theorem rCopy (b0 tb : Nat) (delta : Int) (p : Option Addr) (n c : Nat) (L : List Ut) (vs : List Uv) (w : World) (h : RTab b0 w tb delta p n c L vs) (hn : n ≤ 1099511627776) (hd : ∀ v ∈ vs, v.2.2.2.2.length ≤ 140737488355328) : Calls Tryz.prog 30 #[.pointer (some ⟨tb, 0, none⟩)] w fun o w' => ∃ nb, o = .returned (.pointer (some ⟨nb, 0, none⟩)) ∧ Hid (CS w w' nb delta n vs) := by
  have H : Hid (RTab b0 w tb delta p n c L vs ∧ (∀ v ∈ vs, v.2.2.2.2.length ≤ 140737488355328) ∧ n ≤ 1099511627776) := ⟨h, hd, hn⟩
  have rm := own_room h.row
  unfold maxLen at rm
  obtain ⟨rm1, rm2⟩ := rm
  have c0 := cell_blk h.blk 0 (v := .int .i64 delta) rfl
  obtain ⟨W0, hW0⟩ : ∃ W0, W0 = w.alloc (.cells #[.int .i64 delta, .slice none 0 0] 107) := ⟨_, rfl⟩
  obtain ⟨nb, hnb⟩ : ∃ nb, nb = w.heap.size := ⟨_, rfl⟩
  have S0 : Hid (CS w W0 nb delta 0 (vs.take 0) ∧ Kept (fun _ => False) w W0) := by
    have K : Kept (fun _ => False) w W0 := by rw [hW0]; exact k0_alloc _ _
    exact ⟨⟨⟨none, 0, [], ⟨by rw [hW0, hnb]; exact heap_alloc_new _ _, rfl, ⟨rfl, .inl ⟨rfl, rfl⟩⟩, Along.nil _⟩, fun _ hu => (by cases hu)⟩, K, by omega⟩, K⟩
  have c1 := S0.out.2.cell (cell_blk h.blk 1 (v := .slice p n c) rfl) (fun z => z)
  have EW0 : Hid (W0 = w.alloc (.cells #[.int .i64 delta, .slice none 0 0] 107) ∧ nb = w.heap.size) := ⟨hW0, hnb⟩
  clear h hd hW0 hnb hn
  go_enter Tryz.func30, Tryz.ntmps30
  go_upto_region 4 with fail
  rw [← EW0.out.1, ← EW0.out.2]
  clear c0
  go_wp2_with fail
  go_loopw [5, 19] (fun _ z wr => ∃ (j : Nat), z = .int .i64 (j : Int) ∧ j ≤ n ∧ Hid (CS w wr nb delta j (vs.take j))) (fun _ z _ => n - (intOf z).toNat)
  case atStart => exact ⟨0, rfl, Nat.zero_le _, S0.out.1⟩
  case round =>
    obtain ⟨j, rfl, hj, T⟩ := hrel
    obtain ⟨wq, hwq⟩ : ∃ wq, wq = wr := ⟨_, rfl⟩
    rw [← hwq] at T ⊢
    clear hwq S0 c1
    by_cases hlt : j < n
    · have j1 : (j : Int) < (n : Int) := by omega
      have R := H.out.1.k0 T.out.kept
      obtain ⟨b, k, u, v, f, g, a, ml, ql, rfl, hv, e0, e1, e2, e3, e4, e5⟩ := own_rw R.row R.len hlt
      obtain ⟨hj2, uv⟩ := along_at R.rd hv
      obtain ⟨lv, hlv⟩ : ∃ lv, lv = vs[j].2.2.2.2 := ⟨_, rfl⟩
      have ev : vs[j] = (k, (u, v), f, g, lv) := by
        have q1 : vs[j].1 = k := uv.key.symm
        have q2 : vs[j].2.1 = (u, v) := uv.ent.tag.symm
        have q3 : vs[j].2.2.1 = f := uv.ent.fin.symm
        have q4 : vs[j].2.2.2.1 = g := uv.ent.has.symm
        rw [← q1, ← q2, ← q3, ← q4, hlv]
      rw [ev] at uv
      have NX : Hid (vs.take (j + 1) = vs.take j ++ [(k, (u, v), f, g, lv)]) := by
        rw [List.take_add_one, List.getElem?_eq_getElem hj2, ev]
        exact rfl
      have ml47 : Hid (ml ≤ 140737488355328) := by
        have := H.out.2.1 _ (List.getElem_mem hj2)
        rw [ev] at this
        have e9 := uv.ent.data.length
        have this : lv.length ≤ 140737488355328 := this
        have e9 : lv.length = ml := e9
        show ml ≤ _
        omega
      obtain ⟨pc, cc', M, r1, r2⟩ := T.out.tab
      have HC : Hid ((∀ u ∈ M, ∀ k, blockOf u.2.2.2.2.1 = some k → w.heap.size ≤ k) ∧ w.heap.size ≤ nb) := ⟨r2, T.out.far⟩
      replace HC : Hid ((∀ u ∈ M, ∀ k, blockOf u.2.2.2.2.1 = some k → w.heap.size ≤ k) ∧ w.heap.size ≤ nb ∧ True) := ⟨HC.out.1, HC.out.2, trivial⟩
      obtain ⟨W1, hW1⟩ : ∃ W1, W1 = wq.alloc (.cells #[.string k, .int .i64 u, .int .i64 v, .bool f, .bool g, .slice a ml ql] 109) := ⟨_, rfl⟩
      obtain ⟨X1, hX1⟩ : ∃ X1, X1 = wq.heap.size := ⟨_, rfl⟩
      have J : Hid (W1.heap[X1]? = some (.cells #[.string k, .int .i64 u, .int .i64 v, .bool f, .bool g, .slice a ml ql] 109 (0, 0)) ∧ RTab w.heap.size W1 nb delta pc j cc' M (vs.take j) ∧ Kept (fun _ => False) w W1 ∧ Reads W1 a ml ql lv) := by
        have K1 : Kept (fun _ => False) wq W1 := by rw [hW1]; exact k0_alloc _ _
        exact ⟨by rw [hW1, hX1]; exact heap_alloc_new _ _, r1.k0 K1, T.out.kept.and0 K1, uv.ent.data.kept K1 (fun _ _ z => z)⟩
      have EW1 : Hid (W1 = wq.alloc (.cells #[.string k, .int .i64 u, .int .i64 v, .bool f, .bool g, .slice a ml ql] 109) ∧ X1 = wq.heap.size) := ⟨hW1, hX1⟩
      have BL : Hid (j + 1 ≤ maxLen ∧ ((j + 1) + (j + 1) / 4 + 192) * 64 ≤ 281474976710656) := by
        have := H.out.2.2
        unfold maxLen
        exact ⟨by omega, by omega⟩
      have npX : Hid (¬ blockOf pc = some X1 ∧ ¬ X1 = nb) := by
        refine ⟨fun z => ?_, fun z => ?_⟩
        · have := (own_lt r1.row X1 z).2
          omega
        · have := block_lt r1.blk
          omega
      have BX : Hid (∀ V, Kept (fun _ => False) W1 V → V.cell? ⟨X1, 0, none⟩ = some (.string k) ∧ V.cell? ⟨X1, 1, none⟩ = some (.int .i64 u) ∧ V.cell? ⟨X1, 2, none⟩ = some (.int .i64 v) ∧ V.cell? ⟨X1, 3, none⟩ = some (.bool f) ∧ V.cell? ⟨X1, 4, none⟩ = some (.bool g) ∧ V.cell? ⟨X1, 5, none⟩ = some (.slice a ml ql)) := fun V K => by
        have q := K.get J.out.1 (fun z => z)
        exact ⟨cell_blk q 0 rfl, cell_blk q 1 rfl, cell_blk q 2 rfl, cell_blk q 3 rfl, cell_blk q 4 rfl, cell_blk q 5 rfl⟩
      have BY : Hid (∀ V, Kept (fun k => blockOf pc = some k) W1 V → V.cell? ⟨X1, 0, none⟩ = some (.string k) ∧ V.cell? ⟨X1, 1, none⟩ = some (.int .i64 u) ∧ V.cell? ⟨X1, 2, none⟩ = some (.int .i64 v) ∧ V.cell? ⟨X1, 3, none⟩ = some (.bool f) ∧ V.cell? ⟨X1, 4, none⟩ = some (.bool g) ∧ V.cell? ⟨X1, 5, none⟩ = some (.slice a ml ql)) := fun V K => by
        have q := K.get J.out.1 npX.out.1
        exact ⟨cell_blk q 0 rfl, cell_blk q 1 rfl, cell_blk q 2 rfl, cell_blk q 3 rfl, cell_blk q 4 rfl, cell_blk q 5 rfl⟩
      have BZ : Hid (∀ V (z : Value), Kept (fun k => blockOf pc = some k) W1 V → (V.setCell ⟨nb, 1, none⟩ z).cell? ⟨X1, 0, none⟩ = some (.string k) ∧ (V.setCell ⟨nb, 1, none⟩ z).cell? ⟨X1, 1, none⟩ = some (.int .i64 u) ∧ (V.setCell ⟨nb, 1, none⟩ z).cell? ⟨X1, 2, none⟩ = some (.int .i64 v) ∧ (V.setCell ⟨nb, 1, none⟩ z).cell? ⟨X1, 3, none⟩ = some (.bool f) ∧ (V.setCell ⟨nb, 1, none⟩ z).cell? ⟨X1, 4, none⟩ = some (.bool g) ∧ (V.setCell ⟨nb, 1, none⟩ z).cell? ⟨X1, 5, none⟩ = some (.slice a ml ql)) := fun V z K => by
        have q0 := K.get J.out.1 npX.out.1
        have q : (V.setCell ⟨nb, 1, none⟩ z).heap[X1]? = some (.cells #[.string k, .int .i64 u, .int .i64 v, .bool f, .bool g, .slice a ml ql] 109 (0, 0)) := ((Kept.refl (fun k => k = nb) V).setCell (p := ⟨nb, 1, none⟩) (fun _ => rfl) z).get q0 npX.out.2
        exact ⟨cell_blk q 0 rfl, cell_blk q 1 rfl, cell_blk q 2 rfl, cell_blk q 3 rfl, cell_blk q 4 rfl, cell_blk q 5 rfl⟩
      clear hW1 hX1 R hv hj2 uv ev hlv r1 r2 T
      go_upto_region 7 with fail
      rw [← EW1.out.1, ← EW1.out.2]
      clear e0 e1 e2 e3 e4 e5
      have cd1 := cell_blk J.out.2.1.blk 1 (v := .slice pc j cc') rfl
      refine wp_region_held_drew (S := (fun V => V.cell? ⟨X1, 0, none⟩ = some (.string k) ∧ V.cell? ⟨X1, 1, none⟩ = some (.int .i64 u) ∧ V.cell? ⟨X1, 2, none⟩ = some (.int .i64 v) ∧ V.cell? ⟨X1, 3, none⟩ = some (.bool f) ∧ V.cell? ⟨X1, 4, none⟩ = some (.bool g) ∧ V.cell? ⟨X1, 5, none⟩ = some (.slice a ml ql))) (by kernel_rfl) ?_ (fun hHeld => ?_)
      · exact BX.out _ ((Kept.refl _ _).drew)
      refine wpAnyH_take (i := 0) (oi := { dst := some 23, op := Op.move (Operand.tmp 3), type := 73, pos := "ref.go:188", after := #[], guard := none }) (v := .pointer (some ⟨nb, 0, none⟩)) rfl (by kernel_rfl) (by kernel_rfl) (by kernel_rfl) (fun _ _ _ h => h) (Or.inl ⟨by rfl, ?_⟩) (by assumption) ?_
      · intro w9 hSw
        (try dsimp only at hSw)
        go_simp
      (try simp only [Act.put, List.setIfInBounds_toArray, List.set_cons_zero, List.set_cons_succ])
      refine wpAnyH_take (i := 1) (oi := { dst := some 24, op := Op.move (Operand.tmp 3), type := 73, pos := "ref.go:188", after := #[], guard := none }) (v := .pointer (some ⟨nb, 0, none⟩)) rfl (by kernel_rfl) (by kernel_rfl) (by kernel_rfl) (fun _ _ _ h => h) (Or.inl ⟨by rfl, ?_⟩) (by assumption) ?_
      · intro w9 hSw
        (try dsimp only at hSw)
        go_simp
      (try simp only [Act.put, List.setIfInBounds_toArray, List.set_cons_zero, List.set_cons_succ])
      refine wpAnyH_take (i := 2) (oi := { dst := some 25, op := Op.nilCheck (Operand.tmp 24), type := 0, pos := "ref.go:188", after := #[{ on := 1, ground := Ground.data }], guard := none }) (v := .pointer (some ⟨nb, 0, none⟩)) rfl (by kernel_rfl) (by kernel_rfl) (by kernel_rfl) (fun _ _ _ h => h) (Or.inl ⟨by rfl, ?_⟩) (by assumption) ?_
      · intro w9 hSw
        (try dsimp only at hSw)
        go_simp
      (try simp only [Act.put, List.setIfInBounds_toArray, List.set_cons_zero, List.set_cons_succ])
      refine wpAnyH_take (i := 3) (oi := { dst := some 26, op := Op.fieldAddr 107 (Operand.tmp 25) 1, type := 0, pos := "ref.go:188", after := #[{ on := 2, ground := Ground.data }], guard := none }) (v := .pointer (some ⟨nb, 1, none⟩)) rfl (by kernel_rfl) (by kernel_rfl) (by kernel_rfl) (fun _ _ _ h => h) (Or.inl ⟨by rfl, ?_⟩) (by assumption) ?_
      · intro w9 hSw
        (try dsimp only at hSw)
        go_simp
      (try simp only [Act.put, List.setIfInBounds_toArray, List.set_cons_zero, List.set_cons_succ])
      refine wpAnyH_take (i := 5) (oi := { dst := some 28, op := Op.fieldAddr 109 (Operand.tmp 5) 0, type := 0, pos := "ref.go:188", after := #[], guard := none }) (v := .pointer (some ⟨X1, 0, none⟩)) rfl (by kernel_rfl) (by kernel_rfl) (by kernel_rfl) (fun _ _ _ h => h) (Or.inl ⟨by rfl, ?_⟩) (by assumption) ?_
      · intro w9 hSw
        (try dsimp only at hSw)
        go_simp
      (try simp only [Act.put, List.setIfInBounds_toArray, List.set_cons_zero, List.set_cons_succ])
      refine wpAnyH_take (i := 6) (oi := { dst := some 29, op := Op.load 9 (Operand.tmp 28), type := 9, pos := "ref.go:188", after := #[{ on := 5, ground := Ground.data }], guard := none }) (v := .string k) rfl (by kernel_rfl) (by kernel_rfl) (by kernel_rfl) (fun _ _ _ h => h) (Or.inl ⟨by rfl, ?_⟩) (by assumption) ?_
      · intro w9 hSw
        (try dsimp only at hSw)
        go_simp
      (try simp only [Act.put, List.setIfInBounds_toArray, List.set_cons_zero, List.set_cons_succ])
      refine wpAnyH_take (i := 7) (oi := { dst := some 30, op := Op.fieldAddr 109 (Operand.tmp 5) 1, type := 0, pos := "ref.go:188", after := #[], guard := none }) (v := .pointer (some ⟨X1, 1, none⟩)) rfl (by kernel_rfl) (by kernel_rfl) (by kernel_rfl) (fun _ _ _ h => h) (Or.inl ⟨by rfl, ?_⟩) (by assumption) ?_
      · intro w9 hSw
        (try dsimp only at hSw)
        go_simp
      (try simp only [Act.put, List.setIfInBounds_toArray, List.set_cons_zero, List.set_cons_succ])
      refine wpAnyH_take (i := 8) (oi := { dst := some 31, op := Op.load 40 (Operand.tmp 30), type := 40, pos := "ref.go:188", after := #[{ on := 7, ground := Ground.data }], guard := none }) (v := .agg #[.int .i64 u, .int .i64 v, .bool f, .bool g, .slice a ml ql]) rfl (by kernel_rfl) (by kernel_rfl) (by kernel_rfl) (fun _ _ _ h => h) (Or.inl ⟨by rfl, ?_⟩) (by assumption) ?_
      · intro w9 hSw
        (try dsimp only at hSw)
        go_simp
      (try simp only [Act.put, List.setIfInBounds_toArray, List.set_cons_zero, List.set_cons_succ])
      refine wpAnyH_ready (rs := [4, 9]) (by kernel_rfl) (by simp) ?_
      refine (AllReadyH.cons (o := { dst := some 27, op := Op.load 105 (Operand.tmp 26), type := 105, pos := "ref.go:188", after := #[{ on := 3, ground := Ground.data }], guard := none }) rfl (fun K hK => ?_) (AllReadyH.cons (o := { dst := some 32, op := Op.call { callee := Callee.value (Operand.func 46), args := #[Operand.tmp 31], argTypes := #[40] }, type := 40, pos := "ref.go:188", after := #[{ on := 8, ground := Ground.data }], guard := none }) rfl (fun K hK => ?_) AllReadyH.nil))
      · have cc := cd1
        go_simp
        clear cc
        refine hK.out _ _ ?_ (fun hHeld => ?_)
        · exact BX.out _ (Kept.refl _ _).drew
        clear hK K
        (try simp only [Act.put, List.setIfInBounds_toArray, List.set_cons_zero, List.set_cons_succ])
        refine wpAnyH_ready (rs := [9]) (by kernel_rfl) (by simp) ?_
        refine (AllReadyH.cons (o := { dst := some 32, op := Op.call { callee := Callee.value (Operand.func 46), args := #[Operand.tmp 31], argTypes := #[40] }, type := 40, pos := "ref.go:188", after := #[{ on := 8, ground := Ground.data }], guard := none }) rfl (fun K hK => ?_) AllReadyH.nil)
        go_simp
        refine (rCopied u v f g a ml ql lv W1.drew (J.out.2.2.2.kept ((Kept.refl (fun _ => False) W1).drew) (fun _ _ z => z)) ml47.out).mono ?_
        rintro o w4 ⟨pd, cd, rfl, Q4⟩
        have K4 : Hid (Kept (fun _ => False) W1 w4) := ((Kept.refl _ _).drew).and0 Q4.out.2.2
        refine hK.out _ _ ?_ (fun hHeld => ?_)
        · exact BX.out _ K4.out
        clear hK K
        (try simp only [Act.put, List.setIfInBounds_toArray, List.set_cons_zero, List.set_cons_succ])
        refine wpAnyH_take (i := 10) (oi := { dst := some 33, op := Op.build 109 #[(0, Operand.tmp 29), (1, Operand.tmp 32)], type := 109, pos := "ref.go:188", after := #[{ on := 6, ground := Ground.data }, { on := 9, ground := Ground.data }], guard := none }) (v := .agg #[.string k, .int .i64 u, .int .i64 v, .bool f, .bool g, .slice pd ml cd]) rfl (by kernel_rfl) (by kernel_rfl) (by kernel_rfl) (fun _ _ _ h => h) (Or.inl ⟨by rfl, ?_⟩) (by assumption) ?_
        · intro w9 hSw
          (try dsimp only at hSw)
          go_simp
        (try simp only [Act.put, List.setIfInBounds_toArray, List.set_cons_zero, List.set_cons_succ])
        refine wpAnyH_ready (rs := [11]) (by kernel_rfl) (by simp) ?_
        refine (AllReadyH.cons (o := { dst := some 34, op := Op.buildSlice 105 1 #[(0, Operand.tmp 33)], type := 105, pos := "ref.go:188", after := #[{ on := 10, ground := Ground.data }], guard := none }) rfl (fun K hK => ?_) AllReadyH.nil)
        go_simp
        have K5 : Hid (Kept (fun _ => False) W1 (w4.alloc (.cells #[.string k, .int .i64 u, .int .i64 v, .bool f, .bool g, .slice pd ml cd] 109))) := K4.out.alloc _
        refine hK.out _ _ ?_ (fun hHeld => ?_)
        · exact BX.out _ K5.out
        clear hK K
        (try simp only [Act.put, List.setIfInBounds_toArray, List.set_cons_zero, List.set_cons_succ])
        refine wpAnyH_ready (rs := [12]) (by kernel_rfl) (by simp) ?_
        refine (AllReadyH.cons (o := { dst := some 35, op := Op.call { callee := Callee.builtin Builtin.append, args := #[Operand.tmp 27, Operand.tmp 34], argTypes := #[105, 105] }, type := 105, pos := "ref.go:188", after := #[{ on := 4, ground := Ground.data }, { on := 11, ground := Ground.data }, { on := 9, ground := Ground.chain }], guard := none }) rfl (fun K hK => ?_) AllReadyH.nil)
        refine step_append_all _ (by rfl) (.tmp 27) (.tmp 34) 105 109 105 _ 6 64 (by rfl) Tryz.underlying105 Tryz.info109c rfl w.heap.size (.slice pc j cc') j (rcells M) (by rfl) (K5.out.owns J.out.2.1.row (fun _ _ z => z)) _ 1 (encR (k, (u, v), f, g, pd, ml, cd)) (by rfl) (src_row (heap_alloc_new w4 _)) BL.out.1 BL.out.2 (Nat.le_trans J.out.2.2.1.size K5.out.size) ?_
        intro p9 c9 w8 ho hg hn
        have F8 : Hid (w8.heap[nb]? = some (.cells #[.int .i64 delta, .slice pc j cc'] 107 (0, 0)) ∧ CS w (w8.setCell ⟨nb, 1, none⟩ (.slice p9 (j + 1) c9)) nb delta (j + 1) (vs.take (j + 1)) ∧ Kept (fun k => blockOf pc = some k) W1 w8) := by
          have uv : UvRd (w4.alloc (.cells #[.string k, .int .i64 u, .int .i64 v, .bool f, .bool g, .slice pd ml cd] 109)) (k, (u, v), f, g, pd, ml, cd) (k, (u, v), f, g, lv) := by
            have K6 : Kept (fun _ => False) w4 (w4.alloc (.cells #[.string k, .int .i64 u, .int .i64 v, .bool f, .bool g, .slice pd ml cd] 109)) := k0_alloc _ _
            exact ⟨rfl, rfl, rfl, rfl, Q4.out.1.kept K6 (fun _ _ z => z), fun k hk => by obtain ⟨_, cs, hc⟩ := Q4.out.2.1 k hk; exact ⟨cs, _, K6.get hc (fun z => z)⟩⟩
          obtain ⟨q1, q2, q3, q4⟩ := (J.out.2.1.k0 K5.out).push uv ho.out hg.out hn.out
          have KG : Kept (fun k => blockOf pc = some k) (w4.alloc (.cells #[.string k, .int .i64 u, .int .i64 v, .bool f, .bool g, .slice pd ml cd] 109)) w8 := (Kept.refl (fun k => blockOf pc = some k) _).grown hg.out (fun k _ z => by rw [blockOf_own] at z; exact z)
          refine ⟨q1, ⟨⟨p9, c9, M ++ [(k, (u, v), f, g, pd, ml, cd)], by rw [NX.out]; exact q2, fun z hz k2 hk2 => ?_⟩, (J.out.2.2.1.and0 K5.out).trans q3 (fun b hb z => ?_), HC.out.2.1⟩, (K5.out.mono (fun _ _ z => z.elim)).trans KG (fun _ _ z => z)⟩
          · rcases List.mem_append.1 hz with y | y
            · exact HC.out.1 z y k2 hk2
            · rw [List.mem_singleton.1 y] at hk2
              have h1 := (Q4.out.2.1 k2 hk2).1
              have h2 := J.out.2.2.1.size
              have h1 : W1.heap.size ≤ k2 := h1
              omega
          · rcases z with z | z
            · have := HC.out.2.1
              have z : b = nb := z
              omega
            · have := (own_lt J.out.2.1.row b z).1
              omega
        have e1 := cell_blk F8.out.1 1 (v := .slice pc j cc') rfl
        have s1 := soft_blk F8.out.1 1
        clear ho hg hn
        refine hK.out _ _ ?_ (fun hHeld => ?_)
        · exact BY.out _ F8.out.2.2
        clear hK K
        (try simp only [Act.put, List.setIfInBounds_toArray, List.set_cons_zero, List.set_cons_succ])
        refine wpAnyH_take (i := 13) (oi := { dst := some 36, op := Op.nilCheck (Operand.tmp 23), type := 0, pos := "ref.go:188", after := #[{ on := 0, ground := Ground.data }, { on := 0, ground := Ground.phase }, { on := 1, ground := Ground.phase }, { on := 2, ground := Ground.phase }, { on := 3, ground := Ground.phase }, { on := 4, ground := Ground.phase }, { on := 5, ground := Ground.phase }, { on := 6, ground := Ground.phase }, { on := 7, ground := Ground.phase }, { on := 8, ground := Ground.phase }, { on := 9, ground := Ground.phase }, { on := 10, ground := Ground.phase }, { on := 11, ground := Ground.phase }, { on := 12, ground := Ground.phase }], guard := none }) (v := .pointer (some ⟨nb, 0, none⟩)) rfl (by kernel_rfl) (by kernel_rfl) (by kernel_rfl) (fun _ _ _ h => h) (Or.inl ⟨by rfl, ?_⟩) (by assumption) ?_
        · intro w9 hSw
          (try dsimp only at hSw)
          go_simp
        (try simp only [Act.put, List.setIfInBounds_toArray, List.set_cons_zero, List.set_cons_succ])
        refine wpAnyH_take (i := 14) (oi := { dst := some 37, op := Op.fieldAddr 107 (Operand.tmp 36) 1, type := 0, pos := "ref.go:188", after := #[{ on := 13, ground := Ground.data }, { on := 0, ground := Ground.phase }, { on := 1, ground := Ground.phase }, { on := 2, ground := Ground.phase }, { on := 3, ground := Ground.phase }, { on := 4, ground := Ground.phase }, { on := 5, ground := Ground.phase }, { on := 6, ground := Ground.phase }, { on := 7, ground := Ground.phase }, { on := 8, ground := Ground.phase }, { on := 9, ground := Ground.phase }, { on := 10, ground := Ground.phase }, { on := 11, ground := Ground.phase }, { on := 12, ground := Ground.phase }], guard := none }) (v := .pointer (some ⟨nb, 1, none⟩)) rfl (by kernel_rfl) (by kernel_rfl) (by kernel_rfl) (fun _ _ _ h => h) (Or.inl ⟨by rfl, ?_⟩) (by assumption) ?_
        · intro w9 hSw
          (try dsimp only at hSw)
          go_simp
        (try simp only [Act.put, List.setIfInBounds_toArray, List.set_cons_zero, List.set_cons_succ])
        refine wpAnyH_ready (rs := [15]) (by kernel_rfl) (by simp) ?_
        refine (AllReadyH.cons (o := { dst := none, op := Op.store 105 (Operand.tmp 37) (Operand.tmp 35), type := 0, pos := "ref.go:188", after := #[{ on := 14, ground := Ground.data }, { on := 12, ground := Ground.data }, { on := 12, ground := Ground.chain }, { on := 0, ground := Ground.phase }, { on := 1, ground := Ground.phase }, { on := 2, ground := Ground.phase }, { on := 3, ground := Ground.phase }, { on := 4, ground := Ground.phase }, { on := 5, ground := Ground.phase }, { on := 6, ground := Ground.phase }, { on := 7, ground := Ground.phase }, { on := 8, ground := Ground.phase }, { on := 9, ground := Ground.phase }, { on := 10, ground := Ground.phase }, { on := 11, ground := Ground.phase }, { on := 12, ground := Ground.phase }], guard := none }) rfl (fun K hK => ?_) AllReadyH.nil)
        go_simp
        refine hK.out _ _ ?_ (fun hHeld => ?_)
        · exact BZ.out _ _ F8.out.2.2
        clear hK K
        (try simp only [Act.put, List.setIfInBounds_toArray, List.set_cons_zero, List.set_cons_succ])
        refine wpAnyH_done (by kernel_rfl) ?_ _
        go_wp2_with fail
        go_roundw
        case rel => exact ⟨j + 1, by go_num, by omega, F8.out.2.1⟩
        case measure => simp [intOf] <;> omega
      · go_simp
        refine (rCopied u v f g a ml ql lv W1.drew (J.out.2.2.2.kept ((Kept.refl (fun _ => False) W1).drew) (fun _ _ z => z)) ml47.out).mono ?_
        rintro o w4 ⟨pd, cd, rfl, Q4⟩
        have K4 : Hid (Kept (fun _ => False) W1 w4) := ((Kept.refl _ _).drew).and0 Q4.out.2.2
        refine hK.out _ _ ?_ (fun hHeld => ?_)
        · exact BX.out _ K4.out
        clear hK K
        (try simp only [Act.put, List.setIfInBounds_toArray, List.set_cons_zero, List.set_cons_succ])
        refine wpAnyH_take (i := 10) (oi := { dst := some 33, op := Op.build 109 #[(0, Operand.tmp 29), (1, Operand.tmp 32)], type := 109, pos := "ref.go:188", after := #[{ on := 6, ground := Ground.data }, { on := 9, ground := Ground.data }], guard := none }) (v := .agg #[.string k, .int .i64 u, .int .i64 v, .bool f, .bool g, .slice pd ml cd]) rfl (by kernel_rfl) (by kernel_rfl) (by kernel_rfl) (fun _ _ _ h => h) (Or.inl ⟨by rfl, ?_⟩) (by assumption) ?_
        · intro w9 hSw
          (try dsimp only at hSw)
          go_simp
        (try simp only [Act.put, List.setIfInBounds_toArray, List.set_cons_zero, List.set_cons_succ])
        refine wpAnyH_ready (rs := [4, 11]) (by kernel_rfl) (by simp) ?_
        refine (AllReadyH.cons (o := { dst := some 27, op := Op.load 105 (Operand.tmp 26), type := 105, pos := "ref.go:188", after := #[{ on := 3, ground := Ground.data }], guard := none }) rfl (fun K hK => ?_) (AllReadyH.cons (o := { dst := some 34, op := Op.buildSlice 105 1 #[(0, Operand.tmp 33)], type := 105, pos := "ref.go:188", after := #[{ on := 10, ground := Ground.data }], guard := none }) rfl (fun K hK => ?_) AllReadyH.nil))
        · have cc := K4.out.cell cd1 (fun z => z)
          go_simp
          clear cc
          refine hK.out _ _ ?_ (fun hHeld => ?_)
          · exact BX.out _ K4.out
          clear hK K
          (try simp only [Act.put, List.setIfInBounds_toArray, List.set_cons_zero, List.set_cons_succ])
          refine wpAnyH_ready (rs := [11]) (by kernel_rfl) (by simp) ?_
          refine (AllReadyH.cons (o := { dst := some 34, op := Op.buildSlice 105 1 #[(0, Operand.tmp 33)], type := 105, pos := "ref.go:188", after := #[{ on := 10, ground := Ground.data }], guard := none }) rfl (fun K hK => ?_) AllReadyH.nil)
          go_simp
          have K5 : Hid (Kept (fun _ => False) W1 (w4.alloc (.cells #[.string k, .int .i64 u, .int .i64 v, .bool f, .bool g, .slice pd ml cd] 109))) := K4.out.alloc _
          refine hK.out _ _ ?_ (fun hHeld => ?_)
          · exact BX.out _ K5.out
          clear hK K
          (try simp only [Act.put, List.setIfInBounds_toArray, List.set_cons_zero, List.set_cons_succ])
          refine wpAnyH_ready (rs := [12]) (by kernel_rfl) (by simp) ?_
          refine (AllReadyH.cons (o := { dst := some 35, op := Op.call { callee := Callee.builtin Builtin.append, args := #[Operand.tmp 27, Operand.tmp 34], argTypes := #[105, 105] }, type := 105, pos := "ref.go:188", after := #[{ on := 4, ground := Ground.data }, { on := 11, ground := Ground.data }, { on := 9, ground := Ground.chain }], guard := none }) rfl (fun K hK => ?_) AllReadyH.nil)
          refine step_append_all _ (by rfl) (.tmp 27) (.tmp 34) 105 109 105 _ 6 64 (by rfl) Tryz.underlying105 Tryz.info109c rfl w.heap.size (.slice pc j cc') j (rcells M) (by rfl) (K5.out.owns J.out.2.1.row (fun _ _ z => z)) _ 1 (encR (k, (u, v), f, g, pd, ml, cd)) (by rfl) (src_row (heap_alloc_new w4 _)) BL.out.1 BL.out.2 (Nat.le_trans J.out.2.2.1.size K5.out.size) ?_
          intro p9 c9 w8 ho hg hn
          have F8 : Hid (w8.heap[nb]? = some (.cells #[.int .i64 delta, .slice pc j cc'] 107 (0, 0)) ∧ CS w (w8.setCell ⟨nb, 1, none⟩ (.slice p9 (j + 1) c9)) nb delta (j + 1) (vs.take (j + 1)) ∧ Kept (fun k => blockOf pc = some k) W1 w8) := by
            have uv : UvRd (w4.alloc (.cells #[.string k, .int .i64 u, .int .i64 v, .bool f, .bool g, .slice pd ml cd] 109)) (k, (u, v), f, g, pd, ml, cd) (k, (u, v), f, g, lv) := by
              have K6 : Kept (fun _ => False) w4 (w4.alloc (.cells #[.string k, .int .i64 u, .int .i64 v, .bool f, .bool g, .slice pd ml cd] 109)) := k0_alloc _ _
              exact ⟨rfl, rfl, rfl, rfl, Q4.out.1.kept K6 (fun _ _ z => z), fun k hk => by obtain ⟨_, cs, hc⟩ := Q4.out.2.1 k hk; exact ⟨cs, _, K6.get hc (fun z => z)⟩⟩
            obtain ⟨q1, q2, q3, q4⟩ := (J.out.2.1.k0 K5.out).push uv ho.out hg.out hn.out
            have KG : Kept (fun k => blockOf pc = some k) (w4.alloc (.cells #[.string k, .int .i64 u, .int .i64 v, .bool f, .bool g, .slice pd ml cd] 109)) w8 := (Kept.refl (fun k => blockOf pc = some k) _).grown hg.out (fun k _ z => by rw [blockOf_own] at z; exact z)
            refine ⟨q1, ⟨⟨p9, c9, M ++ [(k, (u, v), f, g, pd, ml, cd)], by rw [NX.out]; exact q2, fun z hz k2 hk2 => ?_⟩, (J.out.2.2.1.and0 K5.out).trans q3 (fun b hb z => ?_), HC.out.2.1⟩, (K5.out.mono (fun _ _ z => z.elim)).trans KG (fun _ _ z => z)⟩
            · rcases List.mem_append.1 hz with y | y
              · exact HC.out.1 z y k2 hk2
              · rw [List.mem_singleton.1 y] at hk2
                have h1 := (Q4.out.2.1 k2 hk2).1
                have h2 := J.out.2.2.1.size
                have h1 : W1.heap.size ≤ k2 := h1
                omega
            · rcases z with z | z
              · have := HC.out.2.1
                have z : b = nb := z
                omega
              · have := (own_lt J.out.2.1.row b z).1
                omega
          have e1 := cell_blk F8.out.1 1 (v := .slice pc j cc') rfl
          have s1 := soft_blk F8.out.1 1
          clear ho hg hn
          refine hK.out _ _ ?_ (fun hHeld => ?_)
          · exact BY.out _ F8.out.2.2
          clear hK K
          (try simp only [Act.put, List.setIfInBounds_toArray, List.set_cons_zero, List.set_cons_succ])
          refine wpAnyH_take (i := 13) (oi := { dst := some 36, op := Op.nilCheck (Operand.tmp 23), type := 0, pos := "ref.go:188", after := #[{ on := 0, ground := Ground.data }, { on := 0, ground := Ground.phase }, { on := 1, ground := Ground.phase }, { on := 2, ground := Ground.phase }, { on := 3, ground := Ground.phase }, { on := 4, ground := Ground.phase }, { on := 5, ground := Ground.phase }, { on := 6, ground := Ground.phase }, { on := 7, ground := Ground.phase }, { on := 8, ground := Ground.phase }, { on := 9, ground := Ground.phase }, { on := 10, ground := Ground.phase }, { on := 11, ground := Ground.phase }, { on := 12, ground := Ground.phase }], guard := none }) (v := .pointer (some ⟨nb, 0, none⟩)) rfl (by kernel_rfl) (by kernel_rfl) (by kernel_rfl) (fun _ _ _ h => h) (Or.inl ⟨by rfl, ?_⟩) (by assumption) ?_
          · intro w9 hSw
            (try dsimp only at hSw)
            go_simp
          (try simp only [Act.put, List.setIfInBounds_toArray, List.set_cons_zero, List.set_cons_succ])
          refine wpAnyH_take (i := 14) (oi := { dst := some 37, op := Op.fieldAddr 107 (Operand.tmp 36) 1, type := 0, pos := "ref.go:188", after := #[{ on := 13, ground := Ground.data }, { on := 0, ground := Ground.phase }, { on := 1, ground := Ground.phase }, { on := 2, ground := Ground.phase }, { on := 3, ground := Ground.phase }, { on := 4, ground := Ground.phase }, { on := 5, ground := Ground.phase }, { on := 6, ground := Ground.phase }, { on := 7, ground := Ground.phase }, { on := 8, ground := Ground.phase }, { on := 9, ground := Ground.phase }, { on := 10, ground := Ground.phase }, { on := 11, ground := Ground.phase }, { on := 12, ground := Ground.phase }], guard := none }) (v := .pointer (some ⟨nb, 1, none⟩)) rfl (by kernel_rfl) (by kernel_rfl) (by kernel_rfl) (fun _ _ _ h => h) (Or.inl ⟨by rfl, ?_⟩) (by assumption) ?_
          · intro w9 hSw
            (try dsimp only at hSw)
            go_simp
          (try simp only [Act.put, List.setIfInBounds_toArray, List.set_cons_zero, List.set_cons_succ])
          refine wpAnyH_ready (rs := [15]) (by kernel_rfl) (by simp) ?_
          refine (AllReadyH.cons (o := { dst := none, op := Op.store 105 (Operand.tmp 37) (Operand.tmp 35), type := 0, pos := "ref.go:188", after := #[{ on := 14, ground := Ground.data }, { on := 12, ground := Ground.data }, { on := 12, ground := Ground.chain }, { on := 0, ground := Ground.phase }, { on := 1, ground := Ground.phase }, { on := 2, ground := Ground.phase }, { on := 3, ground := Ground.phase }, { on := 4, ground := Ground.phase }, { on := 5, ground := Ground.phase }, { on := 6, ground := Ground.phase }, { on := 7, ground := Ground.phase }, { on := 8, ground := Ground.phase }, { on := 9, ground := Ground.phase }, { on := 10, ground := Ground.phase }, { on := 11, ground := Ground.phase }, { on := 12, ground := Ground.phase }], guard := none }) rfl (fun K hK => ?_) AllReadyH.nil)
          go_simp
          refine hK.out _ _ ?_ (fun hHeld => ?_)
          · exact BZ.out _ _ F8.out.2.2
          clear hK K
          (try simp only [Act.put, List.setIfInBounds_toArray, List.set_cons_zero, List.set_cons_succ])
          refine wpAnyH_done (by kernel_rfl) ?_ _
          go_wp2_with fail
          go_roundw
          case rel => exact ⟨j + 1, by go_num, by omega, F8.out.2.1⟩
          case measure => simp [intOf] <;> omega
        · go_simp
          have K5 : Hid (Kept (fun _ => False) W1 (w4.alloc (.cells #[.string k, .int .i64 u, .int .i64 v, .bool f, .bool g, .slice pd ml cd] 109))) := K4.out.alloc _
          refine hK.out _ _ ?_ (fun hHeld => ?_)
          · exact BX.out _ K5.out
          clear hK K
          (try simp only [Act.put, List.setIfInBounds_toArray, List.set_cons_zero, List.set_cons_succ])
          refine wpAnyH_ready (rs := [4]) (by kernel_rfl) (by simp) ?_
          refine (AllReadyH.cons (o := { dst := some 27, op := Op.load 105 (Operand.tmp 26), type := 105, pos := "ref.go:188", after := #[{ on := 3, ground := Ground.data }], guard := none }) rfl (fun K hK => ?_) AllReadyH.nil)
          have cc := K5.out.cell cd1 (fun z => z)
          go_simp
          clear cc
          refine hK.out _ _ ?_ (fun hHeld => ?_)
          · exact BX.out _ K5.out
          clear hK K
          (try simp only [Act.put, List.setIfInBounds_toArray, List.set_cons_zero, List.set_cons_succ])
          refine wpAnyH_ready (rs := [12]) (by kernel_rfl) (by simp) ?_
          refine (AllReadyH.cons (o := { dst := some 35, op := Op.call { callee := Callee.builtin Builtin.append, args := #[Operand.tmp 27, Operand.tmp 34], argTypes := #[105, 105] }, type := 105, pos := "ref.go:188", after := #[{ on := 4, ground := Ground.data }, { on := 11, ground := Ground.data }, { on := 9, ground := Ground.chain }], guard := none }) rfl (fun K hK => ?_) AllReadyH.nil)
          refine step_append_all _ (by rfl) (.tmp 27) (.tmp 34) 105 109 105 _ 6 64 (by rfl) Tryz.underlying105 Tryz.info109c rfl w.heap.size (.slice pc j cc') j (rcells M) (by rfl) (K5.out.owns J.out.2.1.row (fun _ _ z => z)) _ 1 (encR (k, (u, v), f, g, pd, ml, cd)) (by rfl) (src_row (heap_alloc_new w4 _)) BL.out.1 BL.out.2 (Nat.le_trans J.out.2.2.1.size K5.out.size) ?_
          intro p9 c9 w8 ho hg hn
          have F8 : Hid (w8.heap[nb]? = some (.cells #[.int .i64 delta, .slice pc j cc'] 107 (0, 0)) ∧ CS w (w8.setCell ⟨nb, 1, none⟩ (.slice p9 (j + 1) c9)) nb delta (j + 1) (vs.take (j + 1)) ∧ Kept (fun k => blockOf pc = some k) W1 w8) := by
            have uv : UvRd (w4.alloc (.cells #[.string k, .int .i64 u, .int .i64 v, .bool f, .bool g, .slice pd ml cd] 109)) (k, (u, v), f, g, pd, ml, cd) (k, (u, v), f, g, lv) := by
              have K6 : Kept (fun _ => False) w4 (w4.alloc (.cells #[.string k, .int .i64 u, .int .i64 v, .bool f, .bool g, .slice pd ml cd] 109)) := k0_alloc _ _
              exact ⟨rfl, rfl, rfl, rfl, Q4.out.1.kept K6 (fun _ _ z => z), fun k hk => by obtain ⟨_, cs, hc⟩ := Q4.out.2.1 k hk; exact ⟨cs, _, K6.get hc (fun z => z)⟩⟩
            obtain ⟨q1, q2, q3, q4⟩ := (J.out.2.1.k0 K5.out).push uv ho.out hg.out hn.out
            have KG : Kept (fun k => blockOf pc = some k) (w4.alloc (.cells #[.string k, .int .i64 u, .int .i64 v, .bool f, .bool g, .slice pd ml cd] 109)) w8 := (Kept.refl (fun k => blockOf pc = some k) _).grown hg.out (fun k _ z => by rw [blockOf_own] at z; exact z)
            refine ⟨q1, ⟨⟨p9, c9, M ++ [(k, (u, v), f, g, pd, ml, cd)], by rw [NX.out]; exact q2, fun z hz k2 hk2 => ?_⟩, (J.out.2.2.1.and0 K5.out).trans q3 (fun b hb z => ?_), HC.out.2.1⟩, (K5.out.mono (fun _ _ z => z.elim)).trans KG (fun _ _ z => z)⟩
            · rcases List.mem_append.1 hz with y | y
              · exact HC.out.1 z y k2 hk2
              · rw [List.mem_singleton.1 y] at hk2
                have h1 := (Q4.out.2.1 k2 hk2).1
                have h2 := J.out.2.2.1.size
                have h1 : W1.heap.size ≤ k2 := h1
                omega
            · rcases z with z | z
              · have := HC.out.2.1
                have z : b = nb := z
                omega
              · have := (own_lt J.out.2.1.row b z).1
                omega
          have e1 := cell_blk F8.out.1 1 (v := .slice pc j cc') rfl
          have s1 := soft_blk F8.out.1 1
          clear ho hg hn
          refine hK.out _ _ ?_ (fun hHeld => ?_)
          · exact BY.out _ F8.out.2.2
          clear hK K
          (try simp only [Act.put, List.setIfInBounds_toArray, List.set_cons_zero, List.set_cons_succ])
          refine wpAnyH_take (i := 13) (oi := { dst := some 36, op := Op.nilCheck (Operand.tmp 23), type := 0, pos := "ref.go:188", after := #[{ on := 0, ground := Ground.data }, { on := 0, ground := Ground.phase }, { on := 1, ground := Ground.phase }, { on := 2, ground := Ground.phase }, { on := 3, ground := Ground.phase }, { on := 4, ground := Ground.phase }, { on := 5, ground := Ground.phase }, { on := 6, ground := Ground.phase }, { on := 7, ground := Ground.phase }, { on := 8, ground := Ground.phase }, { on := 9, ground := Ground.phase }, { on := 10, ground := Ground.phase }, { on := 11, ground := Ground.phase }, { on := 12, ground := Ground.phase }], guard := none }) (v := .pointer (some ⟨nb, 0, none⟩)) rfl (by kernel_rfl) (by kernel_rfl) (by kernel_rfl) (fun _ _ _ h => h) (Or.inl ⟨by rfl, ?_⟩) (by assumption) ?_
          · intro w9 hSw
            (try dsimp only at hSw)
            go_simp
          (try simp only [Act.put, List.setIfInBounds_toArray, List.set_cons_zero, List.set_cons_succ])
          refine wpAnyH_take (i := 14) (oi := { dst := some 37, op := Op.fieldAddr 107 (Operand.tmp 36) 1, type := 0, pos := "ref.go:188", after := #[{ on := 13, ground := Ground.data }, { on := 0, ground := Ground.phase }, { on := 1, ground := Ground.phase }, { on := 2, ground := Ground.phase }, { on := 3, ground := Ground.phase }, { on := 4, ground := Ground.phase }, { on := 5, ground := Ground.phase }, { on := 6, ground := Ground.phase }, { on := 7, ground := Ground.phase }, { on := 8, ground := Ground.phase }, { on := 9, ground := Ground.phase }, { on := 10, ground := Ground.phase }, { on := 11, ground := Ground.phase }, { on := 12, ground := Ground.phase }], guard := none }) (v := .pointer (some ⟨nb, 1, none⟩)) rfl (by kernel_rfl) (by kernel_rfl) (by kernel_rfl) (fun _ _ _ h => h) (Or.inl ⟨by rfl, ?_⟩) (by assumption) ?_
          · intro w9 hSw
            (try dsimp only at hSw)
            go_simp
          (try simp only [Act.put, List.setIfInBounds_toArray, List.set_cons_zero, List.set_cons_succ])
          refine wpAnyH_ready (rs := [15]) (by kernel_rfl) (by simp) ?_
          refine (AllReadyH.cons (o := { dst := none, op := Op.store 105 (Operand.tmp 37) (Operand.tmp 35), type := 0, pos := "ref.go:188", after := #[{ on := 14, ground := Ground.data }, { on := 12, ground := Ground.data }, { on := 12, ground := Ground.chain }, { on := 0, ground := Ground.phase }, { on := 1, ground := Ground.phase }, { on := 2, ground := Ground.phase }, { on := 3, ground := Ground.phase }, { on := 4, ground := Ground.phase }, { on := 5, ground := Ground.phase }, { on := 6, ground := Ground.phase }, { on := 7, ground := Ground.phase }, { on := 8, ground := Ground.phase }, { on := 9, ground := Ground.phase }, { on := 10, ground := Ground.phase }, { on := 11, ground := Ground.phase }, { on := 12, ground := Ground.phase }], guard := none }) rfl (fun K hK => ?_) AllReadyH.nil)
          go_simp
          refine hK.out _ _ ?_ (fun hHeld => ?_)
          · exact BZ.out _ _ F8.out.2.2
          clear hK K
          (try simp only [Act.put, List.setIfInBounds_toArray, List.set_cons_zero, List.set_cons_succ])
          refine wpAnyH_done (by kernel_rfl) ?_ _
          go_wp2_with fail
          go_roundw
          case rel => exact ⟨j + 1, by go_num, by omega, F8.out.2.1⟩
          case measure => simp [intOf] <;> omega
    · have j1 : ¬ (j : Int) < (n : Int) := by omega
      have G : Hid (CS w wq nb delta n (vs)) := by
        have e9 : j = n := by omega
        have := T.out
        rw [List.take_of_length_le (by rw [H.out.1.vlen]; omega), e9] at this
        exact this
      clear T
      go_wp2_with fail
      go_ret
      exact ⟨nb, rfl, G⟩
end Go.Proofs.YtojepeefphbekaaGreat
