import Derived.Test.YtginpoofeliimabVState
namespace Go.Proofs.Ytginpoofeliimab
open Go.RowKit 

set_option maxRecDepth 100000 in
set_option maxHeartbeats 8000000 in
theorem tWanted {w : World} {p0 : Option Addr} {n c0 : Nat} {ms : List Cm} (cr : CRd w p0 n c0 ms) {b0 g : Nat} {b : List Nat} (is : IS b0 w g n b) {i : Nat} {mi : Cm} (hi : ms[i]? = some mi) : Calls Try.prog 24 #[.slice p0 n c0, .slice (some ⟨g, 0, none⟩) n n, .int .i64 (i : Int)] w (RetB fun v w' => (v = true ↔ Wants (ms.map Cm.cl) b mi.cl) ∧ Kept (fun _ => False) w w') := by
  have hin : i < n := by have := (List.getElem?_eq_some_iff.1 hi).1; rw [cr.len] at this; exact this
  have rm := cr.room
  have sm := cr.small
  unfold maxLen at sm
  have i1 : (i : Int) < (n : Int) := by omega
  have H : Hid (CRd w p0 n c0 ms ∧ IS b0 w g n b ∧ ms[i]? = some mi) := ⟨cr, is, hi⟩
  obtain ⟨b8, off8, mi', rfl, hi', y0, y1, y2, y3, y4, y5, y6, y7, y8, y9, y10, rdi⟩ := cr.at hin
  have em : mi' = mi := by rw [hi] at hi'; exact (Option.some.inj hi').symm
  subst em
  obtain ⟨pi_, hpi⟩ : ∃ pi_, pi_ = mi'.pn := ⟨_, rfl⟩
  have RP : Hid (∀ V, Calls Try.prog 6 #[mi'.agg] V fun o w' => o = .returned (.int .i64 pi_) ∧ Kept (fun _ => False) V w') := fun V => by rw [hpi]; exact tPart mi' V
  have HPI : Hid (pi_ = mi'.pn) := hpi
  have YI : Hid (w.cell? ⟨b8, off8 + i * 11 + 4, none⟩ = some (.slice mi'.va mi'.vn mi'.vc) ∧ Reads w mi'.va mi'.vn mi'.vc mi'.val) := ⟨y4, rdi⟩
  unfold Cm.agg at RP
  clear cr is hi hi' hpi rdi
  go_enter Try.func24, Try.ntmps24
  go_wp2_with fail
  refine (RP.out _).mono ?_
  rintro o w1 ⟨rfl, K1'⟩
  have K1 : Hid (Kept (fun _ => False) w w1) := K1'
  clear K1' RP y0 y1 y2 y3 y4 y5 y6 y7 y8 y9 y10
  by_cases p1 : pi_ = 1
  · subst p1
    have OP : Hid (mi'.cl.open_ = true) := pn_one.1 HPI.out.symm
    have L0 : Hid (Kept (fun _ => False) w w1 ∧ ∀ j d, j < 0 → ms[j]? = some d → ¬ (d.cl.part = true ∧ d.put = false ∧ j ∉ b ∧ d.cl.told = some mi'.val)) := ⟨K1.out, fun j d hj => absurd hj (Nat.not_lt_zero _)⟩
    go_wp2_with fail
    go_loopw [7, 8, 17] (fun _ _ u17 wy => ∃ j : Nat, u17 = .int .i64 (j : Int) ∧ j ≤ n ∧ Hid (Kept (fun _ => False) w wy ∧ ∀ j' d, j' < j → ms[j']? = some d → ¬ (d.cl.part = true ∧ d.put = false ∧ j' ∉ b ∧ d.cl.told = some mi'.val))) (fun _ _ u17 _ => n - (intOf u17).toNat)
    case atStart => exact ⟨0, rfl, Nat.zero_le _, L0⟩
    case round =>
      obtain ⟨j, rfl, hj, L⟩ := hrel
      clear L0
      obtain ⟨wo, hwo⟩ : ∃ wo, wo = wr := ⟨_, rfl⟩
      rw [← hwo] at L ⊢
      clear hwo
      by_cases hlt : j < n
      · have j1 : (j : Int) < (n : Int) := by omega
        obtain ⟨b7, off7, d, e7, hd, y0, y1, y2, y3, y4, y5, y6, y7, y8, y9, y10, rd⟩ := (H.out.1.k0 L.out.1).at hlt
        have e7 : b8 = b7 ∧ off8 = off7 := by simpa using e7
        obtain ⟨rfl, rfl⟩ := e7
        obtain ⟨wd, hW⟩ : ∃ wd, wd = wo.alloc (.cells d.cs 28) := ⟨_, rfl⟩
        obtain ⟨D, hD⟩ : ∃ D, D = wo.heap.size := ⟨_, rfl⟩
        have KW : Kept (fun _ => False) wo wd := by rw [hW]; exact (Kept.refl _ _).alloc _
        have T : Hid (wd.heap[D]? = some (.cells d.cs 28 (0, 0)) ∧ Kept (fun _ => False) w wd ∧ Reads wd d.va d.vn d.vc d.val) := ⟨by rw [hW, hD]; exact alloc_new _ _, L.out.1.trans KW (fun _ _ z => z), Reads.kept KW rd (fun _ _ z => z)⟩
        have EWH : Hid (wd = wo.alloc (.cells #[.int .i64 d.client, .int .i64 d.op, .bool d.put, .string d.key, .slice d.va d.vn d.vc, .int .i64 d.st, .int .i64 d.frm, .int .i64 d.to, .bool d.opn, .int .i64 d.tx, .int .i64 d.ty] 28) ∧ D = wo.heap.size) := ⟨hW, hD⟩
        have NX : Hid (¬ (d.cl.part = true ∧ d.put = false ∧ j ∉ b ∧ d.cl.told = some mi'.val) → ∀ j' d', j' < j + 1 → ms[j']? = some d' → ¬ (d'.cl.part = true ∧ d'.put = false ∧ j' ∉ b ∧ d'.cl.told = some mi'.val)) := fun h j' d' hj' hd' => by
          rcases Nat.lt_succ_iff_lt_or_eq.1 hj' with z | z
          · exact L.out.2 j' d' z hd'
          · rw [z, hd] at hd'
            injection hd' with hd'
            rw [← hd', z]
            exact h
        have HD : Hid (ms[j]? = some d) := hd
        clear hW hD KW hd rd L
        go_upto_region 6 with fail
        rw [← EWH.out.1, ← EWH.out.2]
        clear EWH y0 y1 y2 y3 y4 y5 y6 y7 y8 y9 y10
        have gj := ((H.out.2.1.k0 T.out.2.1).at hlt).1
        have kd : Kept (fun _ => False) wd wd.drew := (Kept.refl _ _).drew
        obtain ⟨inb, hinb⟩ : ∃ inb, decide (j ∈ b) = inb := ⟨_, rfl⟩
        obtain ⟨put, hput⟩ : ∃ put, d.put = put := ⟨_, rfl⟩
        obtain ⟨st, hst⟩ : ∃ st, d.st = st := ⟨_, rfl⟩
        rw [hinb] at gj
        have SH : Hid (∀ V, Kept (fun _ => False) wd V → V.cell? ⟨g, j, none⟩ = some (.bool inb) ∧ V.cell? ⟨D, 0, none⟩ = some (.int .i64 d.client) ∧ V.cell? ⟨D, 1, none⟩ = some (.int .i64 d.op) ∧ V.cell? ⟨D, 2, none⟩ = some (.bool put) ∧ V.cell? ⟨D, 3, none⟩ = some (.string d.key) ∧ V.cell? ⟨D, 4, none⟩ = some (.slice d.va d.vn d.vc) ∧ V.cell? ⟨D, 5, none⟩ = some (.int .i64 st) ∧ V.cell? ⟨D, 6, none⟩ = some (.int .i64 d.frm) ∧ V.cell? ⟨D, 7, none⟩ = some (.int .i64 d.to) ∧ V.cell? ⟨D, 8, none⟩ = some (.bool d.opn) ∧ V.cell? ⟨D, 9, none⟩ = some (.int .i64 d.tx) ∧ V.cell? ⟨D, 10, none⟩ = some (.int .i64 d.ty) ∧ V.cell? ⟨b8, off8 + i * 11 + 4, none⟩ = some (.slice mi'.va mi'.vn mi'.vc)) := fun V kv => by
          have B := kv.get T.out.1 (fun z => z)
          exact ⟨kv.cell gj (fun z => z), cell_blk B 0 rfl, cell_blk B 1 rfl, cell_blk B 2 (by rw [← hput]; rfl), cell_blk B 3 rfl, cell_blk B 4 rfl, cell_blk B 5 (by rw [← hst]; rfl), cell_blk B 6 rfl, cell_blk B 7 rfl, cell_blk B 8 rfl, cell_blk B 9 rfl, cell_blk B 10 rfl, (T.out.2.1.trans kv (fun _ _ z => z)).cell YI.out.1 (fun z => z)⟩
        obtain ⟨pd, hpd⟩ : ∃ pd, pd = d.pn := ⟨_, rfl⟩
        obtain ⟨qq, hqq⟩ : ∃ qq, qq = decide (d.val = mi'.val) := ⟨_, rfl⟩
        have RD : Hid (∀ V, Kept (fun _ => False) wd V → Calls Try.prog 6 #[.agg #[.int .i64 d.client, .int .i64 d.op, .bool put, .string d.key, .slice d.va d.vn d.vc, .int .i64 st, .int .i64 d.frm, .int .i64 d.to, .bool d.opn, .int .i64 d.tx, .int .i64 d.ty]] V fun o w' => o = .returned (.int .i64 pd) ∧ Kept (fun _ => False) V w') := fun V _ => by
          rw [hpd, ← hput, ← hst]
          exact tPart d V
        have RS : Hid (∀ V, Kept (fun _ => False) wd V → Calls Try.prog 25 #[.slice d.va d.vn d.vc, .slice mi'.va mi'.vn mi'.vc] V fun o w' => o = .returned (.bool qq) ∧ Kept (fun _ => False) V w') := fun V kv => by
          rw [hqq]
          exact tSame (Reads.kept kv T.out.2.2 (fun _ _ z => z)) (Reads.kept (T.out.2.1.trans kv (fun _ _ z => z)) YI.out.2 (fun _ _ z => z))
        have HX : Hid (decide (j ∈ b) = inb ∧ d.put = put ∧ d.st = st ∧ pd = d.pn ∧ qq = decide (d.val = mi'.val)) := ⟨hinb, hput, hst, hpd, hqq⟩
        clear hinb hput hst hpd hqq gj
        cases inb
        case true =>
          refine wp_region_held_drew (S := (fun V => V.cell? ⟨g, j, none⟩ = some (.bool true) ∧ V.cell? ⟨D, 0, none⟩ = some (.int .i64 d.client) ∧ V.cell? ⟨D, 1, none⟩ = some (.int .i64 d.op) ∧ V.cell? ⟨D, 2, none⟩ = some (.bool put) ∧ V.cell? ⟨D, 3, none⟩ = some (.string d.key) ∧ V.cell? ⟨D, 4, none⟩ = some (.slice d.va d.vn d.vc) ∧ V.cell? ⟨D, 5, none⟩ = some (.int .i64 st) ∧ V.cell? ⟨D, 6, none⟩ = some (.int .i64 d.frm) ∧ V.cell? ⟨D, 7, none⟩ = some (.int .i64 d.to) ∧ V.cell? ⟨D, 8, none⟩ = some (.bool d.opn) ∧ V.cell? ⟨D, 9, none⟩ = some (.int .i64 d.tx) ∧ V.cell? ⟨D, 10, none⟩ = some (.int .i64 d.ty) ∧ V.cell? ⟨b8, off8 + i * 11 + 4, none⟩ = some (.slice mi'.va mi'.vn mi'.vc))) (by kernel_rfl) ?_ (fun hHeld => ?_)
          · exact SH.out _ kd
          refine wpAnyH_take (i := 0) (oi := { dst := some 22, op := Op.move (Operand.tmp 1), type := 44, pos := "judge.go:114", after := #[], guard := none }) (v := .slice (some ⟨g, 0, none⟩) n n) rfl (by kernel_rfl) (by kernel_rfl) (by kernel_rfl) (fun _ _ _ h => h) (Or.inl ⟨by rfl, ?_⟩) (by assumption) ?_
          · intro w9 hSw
            (try dsimp only at hSw)
            go_simp
          (try simp only [Act.put, List.setIfInBounds_toArray, List.set_cons_zero, List.set_cons_succ])
          refine wpAnyH_take (i := 1) (oi := { dst := some 23, op := Op.move (Operand.tmp 7), type := 3, pos := "judge.go:114", after := #[], guard := none }) (v := .int .i64 (j : Int)) rfl (by kernel_rfl) (by kernel_rfl) (by kernel_rfl) (fun _ _ _ h => h) (Or.inl ⟨by rfl, ?_⟩) (by assumption) ?_
          · intro w9 hSw
            (try dsimp only at hSw)
            go_simp
          (try simp only [Act.put, List.setIfInBounds_toArray, List.set_cons_zero, List.set_cons_succ])
          refine wpAnyH_take (i := 2) (oi := { dst := some 24, op := Op.indexAddr 44 (Operand.tmp 22) (Operand.tmp 23), type := 0, pos := "judge.go:114", after := #[{ on := 0, ground := Ground.data }, { on := 1, ground := Ground.data }], guard := none }) (v := .pointer (some ⟨g, j, none⟩)) rfl (by kernel_rfl) (by kernel_rfl) (by kernel_rfl) (fun _ _ _ h => h) (Or.inl ⟨by rfl, ?_⟩) (by assumption) ?_
          · intro w9 hSw
            (try dsimp only at hSw)
            go_simp
          (try simp only [Act.put, List.setIfInBounds_toArray, List.set_cons_zero, List.set_cons_succ])
          refine wpAnyH_take (i := 3) (oi := { dst := some 25, op := Op.load 4 (Operand.tmp 24), type := 4, pos := "judge.go:114", after := #[{ on := 2, ground := Ground.data }], guard := none }) (v := .bool true) rfl (by kernel_rfl) (by kernel_rfl) (by kernel_rfl) (fun _ _ _ h => h) (Or.inl ⟨by rfl, ?_⟩) (by assumption) ?_
          · intro w9 hSw
            (try dsimp only at hSw)
            go_simp
          (try simp only [Act.put, List.setIfInBounds_toArray, List.set_cons_zero, List.set_cons_succ])
          refine wpAnyH_take (i := 4) (oi := { dst := some 26, op := Op.unOp UnOp.not 4 (Operand.tmp 25), type := 4, pos := "judge.go:114", after := #[{ on := 3, ground := Ground.data }], guard := none }) (v := .bool false) rfl (by kernel_rfl) (by kernel_rfl) (by kernel_rfl) (fun _ _ _ h => h) (Or.inl ⟨by rfl, ?_⟩) (by assumption) ?_
          · intro w9 hSw
            (try dsimp only at hSw)
            go_simp
          (try simp only [Act.put, List.setIfInBounds_toArray, List.set_cons_zero, List.set_cons_succ])
          refine wpAnyH_take (i := 5) (oi := { dst := some 27, op := Op.move (Operand.tmp 26), type := 4, pos := "judge.go:114", after := #[{ on := 4, ground := Ground.data }], guard := none }) (v := .bool false) rfl (by kernel_rfl) (by kernel_rfl) (by kernel_rfl) (fun _ _ _ h => h) (Or.inl ⟨by rfl, ?_⟩) (by assumption) ?_
          · intro w9 hSw
            (try dsimp only at hSw)
            go_simp
          (try simp only [Act.put, List.setIfInBounds_toArray, List.set_cons_zero, List.set_cons_succ])
          refine wpAnyH_take (i := 6) (oi := { dst := some 28, op := Op.fieldAddr 28 (Operand.tmp 8) 2, type := 0, pos := "judge.go:114", after := #[{ on := 5, ground := Ground.guard }], guard := some (5, true) }) (v := undef) rfl (by kernel_rfl) (by kernel_rfl) (by kernel_rfl) (fun _ _ _ h => h) (Or.inr ⟨by rfl, rfl⟩) (by assumption) ?_
          (try simp only [Act.put, List.setIfInBounds_toArray, List.set_cons_zero, List.set_cons_succ])
          refine wpAnyH_take (i := 7) (oi := { dst := some 29, op := Op.load 4 (Operand.tmp 28), type := 4, pos := "judge.go:114", after := #[{ on := 6, ground := Ground.data }, { on := 5, ground := Ground.guard }], guard := some (5, true) }) (v := undef) rfl (by kernel_rfl) (by kernel_rfl) (by kernel_rfl) (fun _ _ _ h => h) (Or.inr ⟨by rfl, rfl⟩) (by assumption) ?_
          (try simp only [Act.put, List.setIfInBounds_toArray, List.set_cons_zero, List.set_cons_succ])
          refine wpAnyH_take (i := 8) (oi := { dst := some 30, op := Op.unOp UnOp.not 4 (Operand.tmp 29), type := 4, pos := "judge.go:114", after := #[{ on := 7, ground := Ground.data }, { on := 5, ground := Ground.guard }], guard := some (5, true) }) (v := undef) rfl (by kernel_rfl) (by kernel_rfl) (by kernel_rfl) (fun _ _ _ h => h) (Or.inr ⟨by rfl, rfl⟩) (by assumption) ?_
          (try simp only [Act.put, List.setIfInBounds_toArray, List.set_cons_zero, List.set_cons_succ])
          refine wpAnyH_take (i := 9) (oi := { dst := some 31, op := Op.pick (Operand.tmp 27) (Operand.tmp 30) (Operand.const (Value.bool false)), type := 4, pos := "judge.go:114", after := #[{ on := 5, ground := Ground.data }, { on := 8, ground := Ground.data }], guard := none }) (v := .bool false) rfl (by kernel_rfl) (by kernel_rfl) (by kernel_rfl) (fun _ _ _ h => h) (Or.inl ⟨by rfl, ?_⟩) (by assumption) ?_
          · intro w9 hSw
            (try dsimp only at hSw)
            go_simp
          (try simp only [Act.put, List.setIfInBounds_toArray, List.set_cons_zero, List.set_cons_succ])
          refine wpAnyH_take (i := 10) (oi := { dst := some 32, op := Op.move (Operand.tmp 31), type := 4, pos := "judge.go:114", after := #[{ on := 9, ground := Ground.data }, { on := 5, ground := Ground.chain }], guard := none }) (v := .bool false) rfl (by kernel_rfl) (by kernel_rfl) (by kernel_rfl) (fun _ _ _ h => h) (Or.inl ⟨by rfl, ?_⟩) (by assumption) ?_
          · intro w9 hSw
            (try dsimp only at hSw)
            go_simp
          (try simp only [Act.put, List.setIfInBounds_toArray, List.set_cons_zero, List.set_cons_succ])
          refine wpAnyH_take (i := 11) (oi := { dst := some 33, op := Op.load 28 (Operand.tmp 8), type := 28, pos := "judge.go:114", after := #[{ on := 10, ground := Ground.guard }], guard := some (10, true) }) (v := undef) rfl (by kernel_rfl) (by kernel_rfl) (by kernel_rfl) (fun _ _ _ h => h) (Or.inr ⟨by rfl, rfl⟩) (by assumption) ?_
          (try simp only [Act.put, List.setIfInBounds_toArray, List.set_cons_zero, List.set_cons_succ])
          refine wpAnyH_take (i := 12) (oi := { dst := some 34, op := Op.call { callee := Callee.value (Operand.func 6), args := #[Operand.tmp 33], argTypes := #[28] }, type := 3, pos := "judge.go:114", after := #[{ on := 11, ground := Ground.data }, { on := 10, ground := Ground.chain }, { on := 10, ground := Ground.guard }], guard := some (10, true) }) (v := undef) rfl (by kernel_rfl) (by kernel_rfl) (by kernel_rfl) (fun _ _ _ h => h) (Or.inr ⟨by rfl, rfl⟩) (by assumption) ?_
          (try simp only [Act.put, List.setIfInBounds_toArray, List.set_cons_zero, List.set_cons_succ])
          refine wpAnyH_take (i := 13) (oi := { dst := some 35, op := Op.binOp BinOp.eql 3 (Operand.tmp 34) (Operand.const (Value.int IntKind.i64 2)) 3, type := 4, pos := "judge.go:114", after := #[{ on := 12, ground := Ground.data }, { on := 10, ground := Ground.guard }], guard := some (10, true) }) (v := undef) rfl (by kernel_rfl) (by kernel_rfl) (by kernel_rfl) (fun _ _ _ h => h) (Or.inr ⟨by rfl, rfl⟩) (by assumption) ?_
          (try simp only [Act.put, List.setIfInBounds_toArray, List.set_cons_zero, List.set_cons_succ])
          refine wpAnyH_take (i := 14) (oi := { dst := some 36, op := Op.pick (Operand.tmp 32) (Operand.tmp 35) (Operand.const (Value.bool false)), type := 4, pos := "judge.go:114", after := #[{ on := 10, ground := Ground.data }, { on := 13, ground := Ground.data }], guard := none }) (v := .bool false) rfl (by kernel_rfl) (by kernel_rfl) (by kernel_rfl) (fun _ _ _ h => h) (Or.inl ⟨by rfl, ?_⟩) (by assumption) ?_
          · intro w9 hSw
            (try dsimp only at hSw)
            go_simp
          (try simp only [Act.put, List.setIfInBounds_toArray, List.set_cons_zero, List.set_cons_succ])
          refine wpAnyH_take (i := 15) (oi := { dst := some 37, op := Op.move (Operand.tmp 36), type := 4, pos := "judge.go:114", after := #[{ on := 14, ground := Ground.data }, { on := 12, ground := Ground.chain }], guard := none }) (v := .bool false) rfl (by kernel_rfl) (by kernel_rfl) (by kernel_rfl) (fun _ _ _ h => h) (Or.inl ⟨by rfl, ?_⟩) (by assumption) ?_
          · intro w9 hSw
            (try dsimp only at hSw)
            go_simp
          (try simp only [Act.put, List.setIfInBounds_toArray, List.set_cons_zero, List.set_cons_succ])
          refine wpAnyH_take (i := 16) (oi := { dst := some 38, op := Op.fieldAddr 28 (Operand.tmp 8) 5, type := 0, pos := "judge.go:114", after := #[{ on := 15, ground := Ground.guard }], guard := some (15, true) }) (v := undef) rfl (by kernel_rfl) (by kernel_rfl) (by kernel_rfl) (fun _ _ _ h => h) (Or.inr ⟨by rfl, rfl⟩) (by assumption) ?_
          (try simp only [Act.put, List.setIfInBounds_toArray, List.set_cons_zero, List.set_cons_succ])
          refine wpAnyH_take (i := 17) (oi := { dst := some 39, op := Op.load 24 (Operand.tmp 38), type := 24, pos := "judge.go:114", after := #[{ on := 16, ground := Ground.data }, { on := 15, ground := Ground.guard }], guard := some (15, true) }) (v := undef) rfl (by kernel_rfl) (by kernel_rfl) (by kernel_rfl) (fun _ _ _ h => h) (Or.inr ⟨by rfl, rfl⟩) (by assumption) ?_
          (try simp only [Act.put, List.setIfInBounds_toArray, List.set_cons_zero, List.set_cons_succ])
          refine wpAnyH_take (i := 18) (oi := { dst := some 40, op := Op.binOp BinOp.eql 24 (Operand.tmp 39) (Operand.const (Value.int IntKind.i64 0)) 24, type := 4, pos := "judge.go:114", after := #[{ on := 17, ground := Ground.data }, { on := 15, ground := Ground.guard }], guard := some (15, true) }) (v := undef) rfl (by kernel_rfl) (by kernel_rfl) (by kernel_rfl) (fun _ _ _ h => h) (Or.inr ⟨by rfl, rfl⟩) (by assumption) ?_
          (try simp only [Act.put, List.setIfInBounds_toArray, List.set_cons_zero, List.set_cons_succ])
          refine wpAnyH_take (i := 19) (oi := { dst := some 41, op := Op.pick (Operand.tmp 37) (Operand.tmp 40) (Operand.const (Value.bool false)), type := 4, pos := "judge.go:114", after := #[{ on := 15, ground := Ground.data }, { on := 18, ground := Ground.data }], guard := none }) (v := .bool false) rfl (by kernel_rfl) (by kernel_rfl) (by kernel_rfl) (fun _ _ _ h => h) (Or.inl ⟨by rfl, ?_⟩) (by assumption) ?_
          · intro w9 hSw
            (try dsimp only at hSw)
            go_simp
          (try simp only [Act.put, List.setIfInBounds_toArray, List.set_cons_zero, List.set_cons_succ])
          refine wpAnyH_take (i := 20) (oi := { dst := some 42, op := Op.move (Operand.tmp 41), type := 4, pos := "judge.go:114", after := #[{ on := 19, ground := Ground.data }, { on := 15, ground := Ground.chain }], guard := none }) (v := .bool false) rfl (by kernel_rfl) (by kernel_rfl) (by kernel_rfl) (fun _ _ _ h => h) (Or.inl ⟨by rfl, ?_⟩) (by assumption) ?_
          · intro w9 hSw
            (try dsimp only at hSw)
            go_simp
          (try simp only [Act.put, List.setIfInBounds_toArray, List.set_cons_zero, List.set_cons_succ])
          refine wpAnyH_take (i := 21) (oi := { dst := some 43, op := Op.fieldAddr 28 (Operand.tmp 8) 4, type := 0, pos := "judge.go:114", after := #[{ on := 20, ground := Ground.guard }], guard := some (20, true) }) (v := undef) rfl (by kernel_rfl) (by kernel_rfl) (by kernel_rfl) (fun _ _ _ h => h) (Or.inr ⟨by rfl, rfl⟩) (by assumption) ?_
          (try simp only [Act.put, List.setIfInBounds_toArray, List.set_cons_zero, List.set_cons_succ])
          refine wpAnyH_take (i := 22) (oi := { dst := some 44, op := Op.load 23 (Operand.tmp 43), type := 23, pos := "judge.go:114", after := #[{ on := 21, ground := Ground.data }, { on := 20, ground := Ground.guard }], guard := some (20, true) }) (v := undef) rfl (by kernel_rfl) (by kernel_rfl) (by kernel_rfl) (fun _ _ _ h => h) (Or.inr ⟨by rfl, rfl⟩) (by assumption) ?_
          (try simp only [Act.put, List.setIfInBounds_toArray, List.set_cons_zero, List.set_cons_succ])
          refine wpAnyH_take (i := 23) (oi := { dst := some 45, op := Op.move (Operand.tmp 0), type := 22, pos := "judge.go:114", after := #[{ on := 20, ground := Ground.guard }], guard := some (20, true) }) (v := undef) rfl (by kernel_rfl) (by kernel_rfl) (by kernel_rfl) (fun _ _ _ h => h) (Or.inr ⟨by rfl, rfl⟩) (by assumption) ?_
          (try simp only [Act.put, List.setIfInBounds_toArray, List.set_cons_zero, List.set_cons_succ])
          refine wpAnyH_take (i := 24) (oi := { dst := some 46, op := Op.move (Operand.tmp 2), type := 3, pos := "judge.go:114", after := #[{ on := 20, ground := Ground.guard }], guard := some (20, true) }) (v := undef) rfl (by kernel_rfl) (by kernel_rfl) (by kernel_rfl) (fun _ _ _ h => h) (Or.inr ⟨by rfl, rfl⟩) (by assumption) ?_
          (try simp only [Act.put, List.setIfInBounds_toArray, List.set_cons_zero, List.set_cons_succ])
          refine wpAnyH_take (i := 25) (oi := { dst := some 47, op := Op.indexAddr 22 (Operand.tmp 45) (Operand.tmp 46), type := 0, pos := "judge.go:114", after := #[{ on := 23, ground := Ground.data }, { on := 24, ground := Ground.data }, { on := 20, ground := Ground.guard }], guard := some (20, true) }) (v := undef) rfl (by kernel_rfl) (by kernel_rfl) (by kernel_rfl) (fun _ _ _ h => h) (Or.inr ⟨by rfl, rfl⟩) (by assumption) ?_
          (try simp only [Act.put, List.setIfInBounds_toArray, List.set_cons_zero, List.set_cons_succ])
          refine wpAnyH_take (i := 26) (oi := { dst := some 48, op := Op.fieldAddr 28 (Operand.tmp 47) 4, type := 0, pos := "judge.go:114", after := #[{ on := 25, ground := Ground.data }, { on := 20, ground := Ground.guard }], guard := some (20, true) }) (v := undef) rfl (by kernel_rfl) (by kernel_rfl) (by kernel_rfl) (fun _ _ _ h => h) (Or.inr ⟨by rfl, rfl⟩) (by assumption) ?_
          (try simp only [Act.put, List.setIfInBounds_toArray, List.set_cons_zero, List.set_cons_succ])
          refine wpAnyH_take (i := 27) (oi := { dst := some 49, op := Op.load 23 (Operand.tmp 48), type := 23, pos := "judge.go:114", after := #[{ on := 26, ground := Ground.data }, { on := 20, ground := Ground.guard }], guard := some (20, true) }) (v := undef) rfl (by kernel_rfl) (by kernel_rfl) (by kernel_rfl) (fun _ _ _ h => h) (Or.inr ⟨by rfl, rfl⟩) (by assumption) ?_
          (try simp only [Act.put, List.setIfInBounds_toArray, List.set_cons_zero, List.set_cons_succ])
          refine wpAnyH_take (i := 28) (oi := { dst := some 50, op := Op.call { callee := Callee.value (Operand.func 25), args := #[Operand.tmp 44, Operand.tmp 49], argTypes := #[23, 23] }, type := 4, pos := "judge.go:114", after := #[{ on := 22, ground := Ground.data }, { on := 27, ground := Ground.data }, { on := 20, ground := Ground.chain }, { on := 20, ground := Ground.guard }], guard := some (20, true) }) (v := undef) rfl (by kernel_rfl) (by kernel_rfl) (by kernel_rfl) (fun _ _ _ h => h) (Or.inr ⟨by rfl, rfl⟩) (by assumption) ?_
          (try simp only [Act.put, List.setIfInBounds_toArray, List.set_cons_zero, List.set_cons_succ])
          refine wpAnyH_take (i := 29) (oi := { dst := some 51, op := Op.pick (Operand.tmp 42) (Operand.tmp 50) (Operand.const (Value.bool false)), type := 4, pos := "judge.go:114", after := #[{ on := 20, ground := Ground.data }, { on := 28, ground := Ground.data }], guard := none }) (v := .bool false) rfl (by kernel_rfl) (by kernel_rfl) (by kernel_rfl) (fun _ _ _ h => h) (Or.inl ⟨by rfl, ?_⟩) (by assumption) ?_
          · intro w9 hSw
            (try dsimp only at hSw)
            go_simp
          (try simp only [Act.put, List.setIfInBounds_toArray, List.set_cons_zero, List.set_cons_succ])
          refine wpAnyH_done (by kernel_rfl) ?_ _
          go_wp2_with fail
          go_roundw
          case rel => exact ⟨j + 1, by go_num, by omega, T.out.2.1.drew, NX.out (fun z => absurd (of_decide_eq_true HX.out.1) z.2.2.1)⟩
          case measure => simp [intOf] <;> omega
        case false =>
          cases put
          case true =>
            refine wp_region_held_drew (S := (fun V => V.cell? ⟨g, j, none⟩ = some (.bool false) ∧ V.cell? ⟨D, 0, none⟩ = some (.int .i64 d.client) ∧ V.cell? ⟨D, 1, none⟩ = some (.int .i64 d.op) ∧ V.cell? ⟨D, 2, none⟩ = some (.bool true) ∧ V.cell? ⟨D, 3, none⟩ = some (.string d.key) ∧ V.cell? ⟨D, 4, none⟩ = some (.slice d.va d.vn d.vc) ∧ V.cell? ⟨D, 5, none⟩ = some (.int .i64 st) ∧ V.cell? ⟨D, 6, none⟩ = some (.int .i64 d.frm) ∧ V.cell? ⟨D, 7, none⟩ = some (.int .i64 d.to) ∧ V.cell? ⟨D, 8, none⟩ = some (.bool d.opn) ∧ V.cell? ⟨D, 9, none⟩ = some (.int .i64 d.tx) ∧ V.cell? ⟨D, 10, none⟩ = some (.int .i64 d.ty) ∧ V.cell? ⟨b8, off8 + i * 11 + 4, none⟩ = some (.slice mi'.va mi'.vn mi'.vc))) (by kernel_rfl) ?_ (fun hHeld => ?_)
            · exact SH.out _ kd
            refine wpAnyH_take (i := 0) (oi := { dst := some 22, op := Op.move (Operand.tmp 1), type := 44, pos := "judge.go:114", after := #[], guard := none }) (v := .slice (some ⟨g, 0, none⟩) n n) rfl (by kernel_rfl) (by kernel_rfl) (by kernel_rfl) (fun _ _ _ h => h) (Or.inl ⟨by rfl, ?_⟩) (by assumption) ?_
            · intro w9 hSw
              (try dsimp only at hSw)
              go_simp
            (try simp only [Act.put, List.setIfInBounds_toArray, List.set_cons_zero, List.set_cons_succ])
            refine wpAnyH_take (i := 1) (oi := { dst := some 23, op := Op.move (Operand.tmp 7), type := 3, pos := "judge.go:114", after := #[], guard := none }) (v := .int .i64 (j : Int)) rfl (by kernel_rfl) (by kernel_rfl) (by kernel_rfl) (fun _ _ _ h => h) (Or.inl ⟨by rfl, ?_⟩) (by assumption) ?_
            · intro w9 hSw
              (try dsimp only at hSw)
              go_simp
            (try simp only [Act.put, List.setIfInBounds_toArray, List.set_cons_zero, List.set_cons_succ])
            refine wpAnyH_take (i := 2) (oi := { dst := some 24, op := Op.indexAddr 44 (Operand.tmp 22) (Operand.tmp 23), type := 0, pos := "judge.go:114", after := #[{ on := 0, ground := Ground.data }, { on := 1, ground := Ground.data }], guard := none }) (v := .pointer (some ⟨g, j, none⟩)) rfl (by kernel_rfl) (by kernel_rfl) (by kernel_rfl) (fun _ _ _ h => h) (Or.inl ⟨by rfl, ?_⟩) (by assumption) ?_
            · intro w9 hSw
              (try dsimp only at hSw)
              go_simp
            (try simp only [Act.put, List.setIfInBounds_toArray, List.set_cons_zero, List.set_cons_succ])
            refine wpAnyH_take (i := 3) (oi := { dst := some 25, op := Op.load 4 (Operand.tmp 24), type := 4, pos := "judge.go:114", after := #[{ on := 2, ground := Ground.data }], guard := none }) (v := .bool false) rfl (by kernel_rfl) (by kernel_rfl) (by kernel_rfl) (fun _ _ _ h => h) (Or.inl ⟨by rfl, ?_⟩) (by assumption) ?_
            · intro w9 hSw
              (try dsimp only at hSw)
              go_simp
            (try simp only [Act.put, List.setIfInBounds_toArray, List.set_cons_zero, List.set_cons_succ])
            refine wpAnyH_take (i := 4) (oi := { dst := some 26, op := Op.unOp UnOp.not 4 (Operand.tmp 25), type := 4, pos := "judge.go:114", after := #[{ on := 3, ground := Ground.data }], guard := none }) (v := .bool true) rfl (by kernel_rfl) (by kernel_rfl) (by kernel_rfl) (fun _ _ _ h => h) (Or.inl ⟨by rfl, ?_⟩) (by assumption) ?_
            · intro w9 hSw
              (try dsimp only at hSw)
              go_simp
            (try simp only [Act.put, List.setIfInBounds_toArray, List.set_cons_zero, List.set_cons_succ])
            refine wpAnyH_take (i := 5) (oi := { dst := some 27, op := Op.move (Operand.tmp 26), type := 4, pos := "judge.go:114", after := #[{ on := 4, ground := Ground.data }], guard := none }) (v := .bool true) rfl (by kernel_rfl) (by kernel_rfl) (by kernel_rfl) (fun _ _ _ h => h) (Or.inl ⟨by rfl, ?_⟩) (by assumption) ?_
            · intro w9 hSw
              (try dsimp only at hSw)
              go_simp
            (try simp only [Act.put, List.setIfInBounds_toArray, List.set_cons_zero, List.set_cons_succ])
            refine wpAnyH_take (i := 6) (oi := { dst := some 28, op := Op.fieldAddr 28 (Operand.tmp 8) 2, type := 0, pos := "judge.go:114", after := #[{ on := 5, ground := Ground.guard }], guard := some (5, true) }) (v := .pointer (some ⟨D, 2, none⟩)) rfl (by kernel_rfl) (by kernel_rfl) (by kernel_rfl) (fun _ _ _ h => h) (Or.inl ⟨by rfl, ?_⟩) (by assumption) ?_
            · intro w9 hSw
              (try dsimp only at hSw)
              go_simp
            (try simp only [Act.put, List.setIfInBounds_toArray, List.set_cons_zero, List.set_cons_succ])
            refine wpAnyH_take (i := 7) (oi := { dst := some 29, op := Op.load 4 (Operand.tmp 28), type := 4, pos := "judge.go:114", after := #[{ on := 6, ground := Ground.data }, { on := 5, ground := Ground.guard }], guard := some (5, true) }) (v := .bool true) rfl (by kernel_rfl) (by kernel_rfl) (by kernel_rfl) (fun _ _ _ h => h) (Or.inl ⟨by rfl, ?_⟩) (by assumption) ?_
            · intro w9 hSw
              (try dsimp only at hSw)
              go_simp
            (try simp only [Act.put, List.setIfInBounds_toArray, List.set_cons_zero, List.set_cons_succ])
            refine wpAnyH_take (i := 8) (oi := { dst := some 30, op := Op.unOp UnOp.not 4 (Operand.tmp 29), type := 4, pos := "judge.go:114", after := #[{ on := 7, ground := Ground.data }, { on := 5, ground := Ground.guard }], guard := some (5, true) }) (v := .bool false) rfl (by kernel_rfl) (by kernel_rfl) (by kernel_rfl) (fun _ _ _ h => h) (Or.inl ⟨by rfl, ?_⟩) (by assumption) ?_
            · intro w9 hSw
              (try dsimp only at hSw)
              go_simp
            (try simp only [Act.put, List.setIfInBounds_toArray, List.set_cons_zero, List.set_cons_succ])
            refine wpAnyH_take (i := 9) (oi := { dst := some 31, op := Op.pick (Operand.tmp 27) (Operand.tmp 30) (Operand.const (Value.bool false)), type := 4, pos := "judge.go:114", after := #[{ on := 5, ground := Ground.data }, { on := 8, ground := Ground.data }], guard := none }) (v := .bool false) rfl (by kernel_rfl) (by kernel_rfl) (by kernel_rfl) (fun _ _ _ h => h) (Or.inl ⟨by rfl, ?_⟩) (by assumption) ?_
            · intro w9 hSw
              (try dsimp only at hSw)
              go_simp
            (try simp only [Act.put, List.setIfInBounds_toArray, List.set_cons_zero, List.set_cons_succ])
            refine wpAnyH_take (i := 10) (oi := { dst := some 32, op := Op.move (Operand.tmp 31), type := 4, pos := "judge.go:114", after := #[{ on := 9, ground := Ground.data }, { on := 5, ground := Ground.chain }], guard := none }) (v := .bool false) rfl (by kernel_rfl) (by kernel_rfl) (by kernel_rfl) (fun _ _ _ h => h) (Or.inl ⟨by rfl, ?_⟩) (by assumption) ?_
            · intro w9 hSw
              (try dsimp only at hSw)
              go_simp
            (try simp only [Act.put, List.setIfInBounds_toArray, List.set_cons_zero, List.set_cons_succ])
            refine wpAnyH_take (i := 11) (oi := { dst := some 33, op := Op.load 28 (Operand.tmp 8), type := 28, pos := "judge.go:114", after := #[{ on := 10, ground := Ground.guard }], guard := some (10, true) }) (v := undef) rfl (by kernel_rfl) (by kernel_rfl) (by kernel_rfl) (fun _ _ _ h => h) (Or.inr ⟨by rfl, rfl⟩) (by assumption) ?_
            (try simp only [Act.put, List.setIfInBounds_toArray, List.set_cons_zero, List.set_cons_succ])
            refine wpAnyH_take (i := 12) (oi := { dst := some 34, op := Op.call { callee := Callee.value (Operand.func 6), args := #[Operand.tmp 33], argTypes := #[28] }, type := 3, pos := "judge.go:114", after := #[{ on := 11, ground := Ground.data }, { on := 10, ground := Ground.chain }, { on := 10, ground := Ground.guard }], guard := some (10, true) }) (v := undef) rfl (by kernel_rfl) (by kernel_rfl) (by kernel_rfl) (fun _ _ _ h => h) (Or.inr ⟨by rfl, rfl⟩) (by assumption) ?_
            (try simp only [Act.put, List.setIfInBounds_toArray, List.set_cons_zero, List.set_cons_succ])
            refine wpAnyH_take (i := 13) (oi := { dst := some 35, op := Op.binOp BinOp.eql 3 (Operand.tmp 34) (Operand.const (Value.int IntKind.i64 2)) 3, type := 4, pos := "judge.go:114", after := #[{ on := 12, ground := Ground.data }, { on := 10, ground := Ground.guard }], guard := some (10, true) }) (v := undef) rfl (by kernel_rfl) (by kernel_rfl) (by kernel_rfl) (fun _ _ _ h => h) (Or.inr ⟨by rfl, rfl⟩) (by assumption) ?_
            (try simp only [Act.put, List.setIfInBounds_toArray, List.set_cons_zero, List.set_cons_succ])
            refine wpAnyH_take (i := 14) (oi := { dst := some 36, op := Op.pick (Operand.tmp 32) (Operand.tmp 35) (Operand.const (Value.bool false)), type := 4, pos := "judge.go:114", after := #[{ on := 10, ground := Ground.data }, { on := 13, ground := Ground.data }], guard := none }) (v := .bool false) rfl (by kernel_rfl) (by kernel_rfl) (by kernel_rfl) (fun _ _ _ h => h) (Or.inl ⟨by rfl, ?_⟩) (by assumption) ?_
            · intro w9 hSw
              (try dsimp only at hSw)
              go_simp
            (try simp only [Act.put, List.setIfInBounds_toArray, List.set_cons_zero, List.set_cons_succ])
            refine wpAnyH_take (i := 15) (oi := { dst := some 37, op := Op.move (Operand.tmp 36), type := 4, pos := "judge.go:114", after := #[{ on := 14, ground := Ground.data }, { on := 12, ground := Ground.chain }], guard := none }) (v := .bool false) rfl (by kernel_rfl) (by kernel_rfl) (by kernel_rfl) (fun _ _ _ h => h) (Or.inl ⟨by rfl, ?_⟩) (by assumption) ?_
            · intro w9 hSw
              (try dsimp only at hSw)
              go_simp
            (try simp only [Act.put, List.setIfInBounds_toArray, List.set_cons_zero, List.set_cons_succ])
            refine wpAnyH_take (i := 16) (oi := { dst := some 38, op := Op.fieldAddr 28 (Operand.tmp 8) 5, type := 0, pos := "judge.go:114", after := #[{ on := 15, ground := Ground.guard }], guard := some (15, true) }) (v := undef) rfl (by kernel_rfl) (by kernel_rfl) (by kernel_rfl) (fun _ _ _ h => h) (Or.inr ⟨by rfl, rfl⟩) (by assumption) ?_
            (try simp only [Act.put, List.setIfInBounds_toArray, List.set_cons_zero, List.set_cons_succ])
            refine wpAnyH_take (i := 17) (oi := { dst := some 39, op := Op.load 24 (Operand.tmp 38), type := 24, pos := "judge.go:114", after := #[{ on := 16, ground := Ground.data }, { on := 15, ground := Ground.guard }], guard := some (15, true) }) (v := undef) rfl (by kernel_rfl) (by kernel_rfl) (by kernel_rfl) (fun _ _ _ h => h) (Or.inr ⟨by rfl, rfl⟩) (by assumption) ?_
            (try simp only [Act.put, List.setIfInBounds_toArray, List.set_cons_zero, List.set_cons_succ])
            refine wpAnyH_take (i := 18) (oi := { dst := some 40, op := Op.binOp BinOp.eql 24 (Operand.tmp 39) (Operand.const (Value.int IntKind.i64 0)) 24, type := 4, pos := "judge.go:114", after := #[{ on := 17, ground := Ground.data }, { on := 15, ground := Ground.guard }], guard := some (15, true) }) (v := undef) rfl (by kernel_rfl) (by kernel_rfl) (by kernel_rfl) (fun _ _ _ h => h) (Or.inr ⟨by rfl, rfl⟩) (by assumption) ?_
            (try simp only [Act.put, List.setIfInBounds_toArray, List.set_cons_zero, List.set_cons_succ])
            refine wpAnyH_take (i := 19) (oi := { dst := some 41, op := Op.pick (Operand.tmp 37) (Operand.tmp 40) (Operand.const (Value.bool false)), type := 4, pos := "judge.go:114", after := #[{ on := 15, ground := Ground.data }, { on := 18, ground := Ground.data }], guard := none }) (v := .bool false) rfl (by kernel_rfl) (by kernel_rfl) (by kernel_rfl) (fun _ _ _ h => h) (Or.inl ⟨by rfl, ?_⟩) (by assumption) ?_
            · intro w9 hSw
              (try dsimp only at hSw)
              go_simp
            (try simp only [Act.put, List.setIfInBounds_toArray, List.set_cons_zero, List.set_cons_succ])
            refine wpAnyH_take (i := 20) (oi := { dst := some 42, op := Op.move (Operand.tmp 41), type := 4, pos := "judge.go:114", after := #[{ on := 19, ground := Ground.data }, { on := 15, ground := Ground.chain }], guard := none }) (v := .bool false) rfl (by kernel_rfl) (by kernel_rfl) (by kernel_rfl) (fun _ _ _ h => h) (Or.inl ⟨by rfl, ?_⟩) (by assumption) ?_
            · intro w9 hSw
              (try dsimp only at hSw)
              go_simp
            (try simp only [Act.put, List.setIfInBounds_toArray, List.set_cons_zero, List.set_cons_succ])
            refine wpAnyH_take (i := 21) (oi := { dst := some 43, op := Op.fieldAddr 28 (Operand.tmp 8) 4, type := 0, pos := "judge.go:114", after := #[{ on := 20, ground := Ground.guard }], guard := some (20, true) }) (v := undef) rfl (by kernel_rfl) (by kernel_rfl) (by kernel_rfl) (fun _ _ _ h => h) (Or.inr ⟨by rfl, rfl⟩) (by assumption) ?_
            (try simp only [Act.put, List.setIfInBounds_toArray, List.set_cons_zero, List.set_cons_succ])
            refine wpAnyH_take (i := 22) (oi := { dst := some 44, op := Op.load 23 (Operand.tmp 43), type := 23, pos := "judge.go:114", after := #[{ on := 21, ground := Ground.data }, { on := 20, ground := Ground.guard }], guard := some (20, true) }) (v := undef) rfl (by kernel_rfl) (by kernel_rfl) (by kernel_rfl) (fun _ _ _ h => h) (Or.inr ⟨by rfl, rfl⟩) (by assumption) ?_
            (try simp only [Act.put, List.setIfInBounds_toArray, List.set_cons_zero, List.set_cons_succ])
            refine wpAnyH_take (i := 23) (oi := { dst := some 45, op := Op.move (Operand.tmp 0), type := 22, pos := "judge.go:114", after := #[{ on := 20, ground := Ground.guard }], guard := some (20, true) }) (v := undef) rfl (by kernel_rfl) (by kernel_rfl) (by kernel_rfl) (fun _ _ _ h => h) (Or.inr ⟨by rfl, rfl⟩) (by assumption) ?_
            (try simp only [Act.put, List.setIfInBounds_toArray, List.set_cons_zero, List.set_cons_succ])
            refine wpAnyH_take (i := 24) (oi := { dst := some 46, op := Op.move (Operand.tmp 2), type := 3, pos := "judge.go:114", after := #[{ on := 20, ground := Ground.guard }], guard := some (20, true) }) (v := undef) rfl (by kernel_rfl) (by kernel_rfl) (by kernel_rfl) (fun _ _ _ h => h) (Or.inr ⟨by rfl, rfl⟩) (by assumption) ?_
            (try simp only [Act.put, List.setIfInBounds_toArray, List.set_cons_zero, List.set_cons_succ])
            refine wpAnyH_take (i := 25) (oi := { dst := some 47, op := Op.indexAddr 22 (Operand.tmp 45) (Operand.tmp 46), type := 0, pos := "judge.go:114", after := #[{ on := 23, ground := Ground.data }, { on := 24, ground := Ground.data }, { on := 20, ground := Ground.guard }], guard := some (20, true) }) (v := undef) rfl (by kernel_rfl) (by kernel_rfl) (by kernel_rfl) (fun _ _ _ h => h) (Or.inr ⟨by rfl, rfl⟩) (by assumption) ?_
            (try simp only [Act.put, List.setIfInBounds_toArray, List.set_cons_zero, List.set_cons_succ])
            refine wpAnyH_take (i := 26) (oi := { dst := some 48, op := Op.fieldAddr 28 (Operand.tmp 47) 4, type := 0, pos := "judge.go:114", after := #[{ on := 25, ground := Ground.data }, { on := 20, ground := Ground.guard }], guard := some (20, true) }) (v := undef) rfl (by kernel_rfl) (by kernel_rfl) (by kernel_rfl) (fun _ _ _ h => h) (Or.inr ⟨by rfl, rfl⟩) (by assumption) ?_
            (try simp only [Act.put, List.setIfInBounds_toArray, List.set_cons_zero, List.set_cons_succ])
            refine wpAnyH_take (i := 27) (oi := { dst := some 49, op := Op.load 23 (Operand.tmp 48), type := 23, pos := "judge.go:114", after := #[{ on := 26, ground := Ground.data }, { on := 20, ground := Ground.guard }], guard := some (20, true) }) (v := undef) rfl (by kernel_rfl) (by kernel_rfl) (by kernel_rfl) (fun _ _ _ h => h) (Or.inr ⟨by rfl, rfl⟩) (by assumption) ?_
            (try simp only [Act.put, List.setIfInBounds_toArray, List.set_cons_zero, List.set_cons_succ])
            refine wpAnyH_take (i := 28) (oi := { dst := some 50, op := Op.call { callee := Callee.value (Operand.func 25), args := #[Operand.tmp 44, Operand.tmp 49], argTypes := #[23, 23] }, type := 4, pos := "judge.go:114", after := #[{ on := 22, ground := Ground.data }, { on := 27, ground := Ground.data }, { on := 20, ground := Ground.chain }, { on := 20, ground := Ground.guard }], guard := some (20, true) }) (v := undef) rfl (by kernel_rfl) (by kernel_rfl) (by kernel_rfl) (fun _ _ _ h => h) (Or.inr ⟨by rfl, rfl⟩) (by assumption) ?_
            (try simp only [Act.put, List.setIfInBounds_toArray, List.set_cons_zero, List.set_cons_succ])
            refine wpAnyH_take (i := 29) (oi := { dst := some 51, op := Op.pick (Operand.tmp 42) (Operand.tmp 50) (Operand.const (Value.bool false)), type := 4, pos := "judge.go:114", after := #[{ on := 20, ground := Ground.data }, { on := 28, ground := Ground.data }], guard := none }) (v := .bool false) rfl (by kernel_rfl) (by kernel_rfl) (by kernel_rfl) (fun _ _ _ h => h) (Or.inl ⟨by rfl, ?_⟩) (by assumption) ?_
            · intro w9 hSw
              (try dsimp only at hSw)
              go_simp
            (try simp only [Act.put, List.setIfInBounds_toArray, List.set_cons_zero, List.set_cons_succ])
            refine wpAnyH_done (by kernel_rfl) ?_ _
            go_wp2_with fail
            go_roundw
            case rel => exact ⟨j + 1, by go_num, by omega, T.out.2.1.drew, NX.out (fun z => by have h1 := z.2.1; rw [HX.out.2.1] at h1; cases h1)⟩
            case measure => simp [intOf] <;> omega
          case false =>
            by_cases p2 : pd = 2
            case pos =>
              subst p2
              by_cases s0 : st = 0
              case pos =>
                subst s0
                cases qq
                case false =>
                  refine wp_region_held_drew (S := (fun V => V.cell? ⟨g, j, none⟩ = some (.bool false) ∧ V.cell? ⟨D, 0, none⟩ = some (.int .i64 d.client) ∧ V.cell? ⟨D, 1, none⟩ = some (.int .i64 d.op) ∧ V.cell? ⟨D, 2, none⟩ = some (.bool false) ∧ V.cell? ⟨D, 3, none⟩ = some (.string d.key) ∧ V.cell? ⟨D, 4, none⟩ = some (.slice d.va d.vn d.vc) ∧ V.cell? ⟨D, 5, none⟩ = some (.int .i64 0) ∧ V.cell? ⟨D, 6, none⟩ = some (.int .i64 d.frm) ∧ V.cell? ⟨D, 7, none⟩ = some (.int .i64 d.to) ∧ V.cell? ⟨D, 8, none⟩ = some (.bool d.opn) ∧ V.cell? ⟨D, 9, none⟩ = some (.int .i64 d.tx) ∧ V.cell? ⟨D, 10, none⟩ = some (.int .i64 d.ty) ∧ V.cell? ⟨b8, off8 + i * 11 + 4, none⟩ = some (.slice mi'.va mi'.vn mi'.vc))) (by kernel_rfl) ?_ (fun hHeld => ?_)
                  · exact SH.out _ kd
                  refine wpAnyH_take (i := 0) (oi := { dst := some 22, op := Op.move (Operand.tmp 1), type := 44, pos := "judge.go:114", after := #[], guard := none }) (v := .slice (some ⟨g, 0, none⟩) n n) rfl (by kernel_rfl) (by kernel_rfl) (by kernel_rfl) (fun _ _ _ h => h) (Or.inl ⟨by rfl, ?_⟩) (by assumption) ?_
                  · intro w9 hSw
                    (try dsimp only at hSw)
                    go_simp
                  (try simp only [Act.put, List.setIfInBounds_toArray, List.set_cons_zero, List.set_cons_succ])
                  refine wpAnyH_take (i := 1) (oi := { dst := some 23, op := Op.move (Operand.tmp 7), type := 3, pos := "judge.go:114", after := #[], guard := none }) (v := .int .i64 (j : Int)) rfl (by kernel_rfl) (by kernel_rfl) (by kernel_rfl) (fun _ _ _ h => h) (Or.inl ⟨by rfl, ?_⟩) (by assumption) ?_
                  · intro w9 hSw
                    (try dsimp only at hSw)
                    go_simp
                  (try simp only [Act.put, List.setIfInBounds_toArray, List.set_cons_zero, List.set_cons_succ])
                  refine wpAnyH_take (i := 2) (oi := { dst := some 24, op := Op.indexAddr 44 (Operand.tmp 22) (Operand.tmp 23), type := 0, pos := "judge.go:114", after := #[{ on := 0, ground := Ground.data }, { on := 1, ground := Ground.data }], guard := none }) (v := .pointer (some ⟨g, j, none⟩)) rfl (by kernel_rfl) (by kernel_rfl) (by kernel_rfl) (fun _ _ _ h => h) (Or.inl ⟨by rfl, ?_⟩) (by assumption) ?_
                  · intro w9 hSw
                    (try dsimp only at hSw)
                    go_simp
                  (try simp only [Act.put, List.setIfInBounds_toArray, List.set_cons_zero, List.set_cons_succ])
                  refine wpAnyH_take (i := 3) (oi := { dst := some 25, op := Op.load 4 (Operand.tmp 24), type := 4, pos := "judge.go:114", after := #[{ on := 2, ground := Ground.data }], guard := none }) (v := .bool false) rfl (by kernel_rfl) (by kernel_rfl) (by kernel_rfl) (fun _ _ _ h => h) (Or.inl ⟨by rfl, ?_⟩) (by assumption) ?_
                  · intro w9 hSw
                    (try dsimp only at hSw)
                    go_simp
                  (try simp only [Act.put, List.setIfInBounds_toArray, List.set_cons_zero, List.set_cons_succ])
                  refine wpAnyH_take (i := 4) (oi := { dst := some 26, op := Op.unOp UnOp.not 4 (Operand.tmp 25), type := 4, pos := "judge.go:114", after := #[{ on := 3, ground := Ground.data }], guard := none }) (v := .bool true) rfl (by kernel_rfl) (by kernel_rfl) (by kernel_rfl) (fun _ _ _ h => h) (Or.inl ⟨by rfl, ?_⟩) (by assumption) ?_
                  · intro w9 hSw
                    (try dsimp only at hSw)
                    go_simp
                  (try simp only [Act.put, List.setIfInBounds_toArray, List.set_cons_zero, List.set_cons_succ])
                  refine wpAnyH_take (i := 5) (oi := { dst := some 27, op := Op.move (Operand.tmp 26), type := 4, pos := "judge.go:114", after := #[{ on := 4, ground := Ground.data }], guard := none }) (v := .bool true) rfl (by kernel_rfl) (by kernel_rfl) (by kernel_rfl) (fun _ _ _ h => h) (Or.inl ⟨by rfl, ?_⟩) (by assumption) ?_
                  · intro w9 hSw
                    (try dsimp only at hSw)
                    go_simp
                  (try simp only [Act.put, List.setIfInBounds_toArray, List.set_cons_zero, List.set_cons_succ])
                  refine wpAnyH_take (i := 6) (oi := { dst := some 28, op := Op.fieldAddr 28 (Operand.tmp 8) 2, type := 0, pos := "judge.go:114", after := #[{ on := 5, ground := Ground.guard }], guard := some (5, true) }) (v := .pointer (some ⟨D, 2, none⟩)) rfl (by kernel_rfl) (by kernel_rfl) (by kernel_rfl) (fun _ _ _ h => h) (Or.inl ⟨by rfl, ?_⟩) (by assumption) ?_
                  · intro w9 hSw
                    (try dsimp only at hSw)
                    go_simp
                  (try simp only [Act.put, List.setIfInBounds_toArray, List.set_cons_zero, List.set_cons_succ])
                  refine wpAnyH_take (i := 7) (oi := { dst := some 29, op := Op.load 4 (Operand.tmp 28), type := 4, pos := "judge.go:114", after := #[{ on := 6, ground := Ground.data }, { on := 5, ground := Ground.guard }], guard := some (5, true) }) (v := .bool false) rfl (by kernel_rfl) (by kernel_rfl) (by kernel_rfl) (fun _ _ _ h => h) (Or.inl ⟨by rfl, ?_⟩) (by assumption) ?_
                  · intro w9 hSw
                    (try dsimp only at hSw)
                    go_simp
                  (try simp only [Act.put, List.setIfInBounds_toArray, List.set_cons_zero, List.set_cons_succ])
                  refine wpAnyH_take (i := 8) (oi := { dst := some 30, op := Op.unOp UnOp.not 4 (Operand.tmp 29), type := 4, pos := "judge.go:114", after := #[{ on := 7, ground := Ground.data }, { on := 5, ground := Ground.guard }], guard := some (5, true) }) (v := .bool true) rfl (by kernel_rfl) (by kernel_rfl) (by kernel_rfl) (fun _ _ _ h => h) (Or.inl ⟨by rfl, ?_⟩) (by assumption) ?_
                  · intro w9 hSw
                    (try dsimp only at hSw)
                    go_simp
                  (try simp only [Act.put, List.setIfInBounds_toArray, List.set_cons_zero, List.set_cons_succ])
                  refine wpAnyH_take (i := 9) (oi := { dst := some 31, op := Op.pick (Operand.tmp 27) (Operand.tmp 30) (Operand.const (Value.bool false)), type := 4, pos := "judge.go:114", after := #[{ on := 5, ground := Ground.data }, { on := 8, ground := Ground.data }], guard := none }) (v := .bool true) rfl (by kernel_rfl) (by kernel_rfl) (by kernel_rfl) (fun _ _ _ h => h) (Or.inl ⟨by rfl, ?_⟩) (by assumption) ?_
                  · intro w9 hSw
                    (try dsimp only at hSw)
                    go_simp
                  (try simp only [Act.put, List.setIfInBounds_toArray, List.set_cons_zero, List.set_cons_succ])
                  refine wpAnyH_take (i := 10) (oi := { dst := some 32, op := Op.move (Operand.tmp 31), type := 4, pos := "judge.go:114", after := #[{ on := 9, ground := Ground.data }, { on := 5, ground := Ground.chain }], guard := none }) (v := .bool true) rfl (by kernel_rfl) (by kernel_rfl) (by kernel_rfl) (fun _ _ _ h => h) (Or.inl ⟨by rfl, ?_⟩) (by assumption) ?_
                  · intro w9 hSw
                    (try dsimp only at hSw)
                    go_simp
                  (try simp only [Act.put, List.setIfInBounds_toArray, List.set_cons_zero, List.set_cons_succ])
                  refine wpAnyH_take (i := 11) (oi := { dst := some 33, op := Op.load 28 (Operand.tmp 8), type := 28, pos := "judge.go:114", after := #[{ on := 10, ground := Ground.guard }], guard := some (10, true) }) (v := .agg #[.int .i64 d.client, .int .i64 d.op, .bool false, .string d.key, .slice d.va d.vn d.vc, .int .i64 0, .int .i64 d.frm, .int .i64 d.to, .bool d.opn, .int .i64 d.tx, .int .i64 d.ty]) rfl (by kernel_rfl) (by kernel_rfl) (by kernel_rfl) (fun _ _ _ h => h) (Or.inl ⟨by rfl, ?_⟩) (by assumption) ?_
                  · intro w9 hSw
                    (try dsimp only at hSw)
                    go_simp
                  (try simp only [Act.put, List.setIfInBounds_toArray, List.set_cons_zero, List.set_cons_succ])
                  refine wpAnyH_ready (rs := [12]) (by kernel_rfl) (by simp) ?_
                  refine (AllReadyH.cons (o := { dst := some 34, op := Op.call { callee := Callee.value (Operand.func 6), args := #[Operand.tmp 33], argTypes := #[28] }, type := 3, pos := "judge.go:114", after := #[{ on := 11, ground := Ground.data }, { on := 10, ground := Ground.chain }, { on := 10, ground := Ground.guard }], guard := some (10, true) }) rfl (fun K hK => ?_) AllReadyH.nil)
                  go_simp
                  refine (RD.out _ kd).mono ?_
                  rintro o w5 ⟨rfl, KX⟩
                  have K5 : Kept (fun _ => False) wd w5 := Kept.trans kd KX (fun _ _ z => z)
                  refine hK.out _ _ ?_ (fun hHeld => ?_)
                  · exact SH.out w5 K5
                  clear hK K KX
                  (try simp only [Act.put, List.setIfInBounds_toArray, List.set_cons_zero, List.set_cons_succ])
                  refine wpAnyH_take (i := 13) (oi := { dst := some 35, op := Op.binOp BinOp.eql 3 (Operand.tmp 34) (Operand.const (Value.int IntKind.i64 2)) 3, type := 4, pos := "judge.go:114", after := #[{ on := 12, ground := Ground.data }, { on := 10, ground := Ground.guard }], guard := some (10, true) }) (v := .bool true) rfl (by kernel_rfl) (by kernel_rfl) (by kernel_rfl) (fun _ _ _ h => h) (Or.inl ⟨by rfl, ?_⟩) (by assumption) ?_
                  · intro w9 hSw
                    (try dsimp only at hSw)
                    go_simp
                  (try simp only [Act.put, List.setIfInBounds_toArray, List.set_cons_zero, List.set_cons_succ])
                  refine wpAnyH_take (i := 14) (oi := { dst := some 36, op := Op.pick (Operand.tmp 32) (Operand.tmp 35) (Operand.const (Value.bool false)), type := 4, pos := "judge.go:114", after := #[{ on := 10, ground := Ground.data }, { on := 13, ground := Ground.data }], guard := none }) (v := .bool true) rfl (by kernel_rfl) (by kernel_rfl) (by kernel_rfl) (fun _ _ _ h => h) (Or.inl ⟨by rfl, ?_⟩) (by assumption) ?_
                  · intro w9 hSw
                    (try dsimp only at hSw)
                    go_simp
                  (try simp only [Act.put, List.setIfInBounds_toArray, List.set_cons_zero, List.set_cons_succ])
                  refine wpAnyH_take (i := 15) (oi := { dst := some 37, op := Op.move (Operand.tmp 36), type := 4, pos := "judge.go:114", after := #[{ on := 14, ground := Ground.data }, { on := 12, ground := Ground.chain }], guard := none }) (v := .bool true) rfl (by kernel_rfl) (by kernel_rfl) (by kernel_rfl) (fun _ _ _ h => h) (Or.inl ⟨by rfl, ?_⟩) (by assumption) ?_
                  · intro w9 hSw
                    (try dsimp only at hSw)
                    go_simp
                  (try simp only [Act.put, List.setIfInBounds_toArray, List.set_cons_zero, List.set_cons_succ])
                  refine wpAnyH_take (i := 16) (oi := { dst := some 38, op := Op.fieldAddr 28 (Operand.tmp 8) 5, type := 0, pos := "judge.go:114", after := #[{ on := 15, ground := Ground.guard }], guard := some (15, true) }) (v := .pointer (some ⟨D, 5, none⟩)) rfl (by kernel_rfl) (by kernel_rfl) (by kernel_rfl) (fun _ _ _ h => h) (Or.inl ⟨by rfl, ?_⟩) (by assumption) ?_
                  · intro w9 hSw
                    (try dsimp only at hSw)
                    go_simp
                  (try simp only [Act.put, List.setIfInBounds_toArray, List.set_cons_zero, List.set_cons_succ])
                  refine wpAnyH_take (i := 17) (oi := { dst := some 39, op := Op.load 24 (Operand.tmp 38), type := 24, pos := "judge.go:114", after := #[{ on := 16, ground := Ground.data }, { on := 15, ground := Ground.guard }], guard := some (15, true) }) (v := .int .i64 0) rfl (by kernel_rfl) (by kernel_rfl) (by kernel_rfl) (fun _ _ _ h => h) (Or.inl ⟨by rfl, ?_⟩) (by assumption) ?_
                  · intro w9 hSw
                    (try dsimp only at hSw)
                    go_simp
                  (try simp only [Act.put, List.setIfInBounds_toArray, List.set_cons_zero, List.set_cons_succ])
                  refine wpAnyH_take (i := 18) (oi := { dst := some 40, op := Op.binOp BinOp.eql 24 (Operand.tmp 39) (Operand.const (Value.int IntKind.i64 0)) 24, type := 4, pos := "judge.go:114", after := #[{ on := 17, ground := Ground.data }, { on := 15, ground := Ground.guard }], guard := some (15, true) }) (v := .bool true) rfl (by kernel_rfl) (by kernel_rfl) (by kernel_rfl) (fun _ _ _ h => h) (Or.inl ⟨by rfl, ?_⟩) (by assumption) ?_
                  · intro w9 hSw
                    (try dsimp only at hSw)
                    go_simp
                  (try simp only [Act.put, List.setIfInBounds_toArray, List.set_cons_zero, List.set_cons_succ])
                  refine wpAnyH_take (i := 19) (oi := { dst := some 41, op := Op.pick (Operand.tmp 37) (Operand.tmp 40) (Operand.const (Value.bool false)), type := 4, pos := "judge.go:114", after := #[{ on := 15, ground := Ground.data }, { on := 18, ground := Ground.data }], guard := none }) (v := .bool true) rfl (by kernel_rfl) (by kernel_rfl) (by kernel_rfl) (fun _ _ _ h => h) (Or.inl ⟨by rfl, ?_⟩) (by assumption) ?_
                  · intro w9 hSw
                    (try dsimp only at hSw)
                    go_simp
                  (try simp only [Act.put, List.setIfInBounds_toArray, List.set_cons_zero, List.set_cons_succ])
                  refine wpAnyH_take (i := 20) (oi := { dst := some 42, op := Op.move (Operand.tmp 41), type := 4, pos := "judge.go:114", after := #[{ on := 19, ground := Ground.data }, { on := 15, ground := Ground.chain }], guard := none }) (v := .bool true) rfl (by kernel_rfl) (by kernel_rfl) (by kernel_rfl) (fun _ _ _ h => h) (Or.inl ⟨by rfl, ?_⟩) (by assumption) ?_
                  · intro w9 hSw
                    (try dsimp only at hSw)
                    go_simp
                  (try simp only [Act.put, List.setIfInBounds_toArray, List.set_cons_zero, List.set_cons_succ])
                  refine wpAnyH_take (i := 21) (oi := { dst := some 43, op := Op.fieldAddr 28 (Operand.tmp 8) 4, type := 0, pos := "judge.go:114", after := #[{ on := 20, ground := Ground.guard }], guard := some (20, true) }) (v := .pointer (some ⟨D, 4, none⟩)) rfl (by kernel_rfl) (by kernel_rfl) (by kernel_rfl) (fun _ _ _ h => h) (Or.inl ⟨by rfl, ?_⟩) (by assumption) ?_
                  · intro w9 hSw
                    (try dsimp only at hSw)
                    go_simp
                  (try simp only [Act.put, List.setIfInBounds_toArray, List.set_cons_zero, List.set_cons_succ])
                  refine wpAnyH_take (i := 22) (oi := { dst := some 44, op := Op.load 23 (Operand.tmp 43), type := 23, pos := "judge.go:114", after := #[{ on := 21, ground := Ground.data }, { on := 20, ground := Ground.guard }], guard := some (20, true) }) (v := .slice d.va d.vn d.vc) rfl (by kernel_rfl) (by kernel_rfl) (by kernel_rfl) (fun _ _ _ h => h) (Or.inl ⟨by rfl, ?_⟩) (by assumption) ?_
                  · intro w9 hSw
                    (try dsimp only at hSw)
                    go_simp
                  (try simp only [Act.put, List.setIfInBounds_toArray, List.set_cons_zero, List.set_cons_succ])
                  refine wpAnyH_take (i := 23) (oi := { dst := some 45, op := Op.move (Operand.tmp 0), type := 22, pos := "judge.go:114", after := #[{ on := 20, ground := Ground.guard }], guard := some (20, true) }) (v := .slice (some ⟨b8, off8, none⟩) n c0) rfl (by kernel_rfl) (by kernel_rfl) (by kernel_rfl) (fun _ _ _ h => h) (Or.inl ⟨by rfl, ?_⟩) (by assumption) ?_
                  · intro w9 hSw
                    (try dsimp only at hSw)
                    go_simp
                  (try simp only [Act.put, List.setIfInBounds_toArray, List.set_cons_zero, List.set_cons_succ])
                  refine wpAnyH_take (i := 24) (oi := { dst := some 46, op := Op.move (Operand.tmp 2), type := 3, pos := "judge.go:114", after := #[{ on := 20, ground := Ground.guard }], guard := some (20, true) }) (v := .int .i64 (i : Int)) rfl (by kernel_rfl) (by kernel_rfl) (by kernel_rfl) (fun _ _ _ h => h) (Or.inl ⟨by rfl, ?_⟩) (by assumption) ?_
                  · intro w9 hSw
                    (try dsimp only at hSw)
                    go_simp
                  (try simp only [Act.put, List.setIfInBounds_toArray, List.set_cons_zero, List.set_cons_succ])
                  refine wpAnyH_take (i := 25) (oi := { dst := some 47, op := Op.indexAddr 22 (Operand.tmp 45) (Operand.tmp 46), type := 0, pos := "judge.go:114", after := #[{ on := 23, ground := Ground.data }, { on := 24, ground := Ground.data }, { on := 20, ground := Ground.guard }], guard := some (20, true) }) (v := .pointer (some ⟨b8, off8 + i * 11, none⟩)) rfl (by kernel_rfl) (by kernel_rfl) (by kernel_rfl) (fun _ _ _ h => h) (Or.inl ⟨by rfl, ?_⟩) (by assumption) ?_
                  · intro w9 hSw
                    (try dsimp only at hSw)
                    go_simp
                  (try simp only [Act.put, List.setIfInBounds_toArray, List.set_cons_zero, List.set_cons_succ])
                  refine wpAnyH_take (i := 26) (oi := { dst := some 48, op := Op.fieldAddr 28 (Operand.tmp 47) 4, type := 0, pos := "judge.go:114", after := #[{ on := 25, ground := Ground.data }, { on := 20, ground := Ground.guard }], guard := some (20, true) }) (v := .pointer (some ⟨b8, off8 + i * 11 + 4, none⟩)) rfl (by kernel_rfl) (by kernel_rfl) (by kernel_rfl) (fun _ _ _ h => h) (Or.inl ⟨by rfl, ?_⟩) (by assumption) ?_
                  · intro w9 hSw
                    (try dsimp only at hSw)
                    go_simp
                  (try simp only [Act.put, List.setIfInBounds_toArray, List.set_cons_zero, List.set_cons_succ])
                  refine wpAnyH_take (i := 27) (oi := { dst := some 49, op := Op.load 23 (Operand.tmp 48), type := 23, pos := "judge.go:114", after := #[{ on := 26, ground := Ground.data }, { on := 20, ground := Ground.guard }], guard := some (20, true) }) (v := .slice mi'.va mi'.vn mi'.vc) rfl (by kernel_rfl) (by kernel_rfl) (by kernel_rfl) (fun _ _ _ h => h) (Or.inl ⟨by rfl, ?_⟩) (by assumption) ?_
                  · intro w9 hSw
                    (try dsimp only at hSw)
                    go_simp
                  (try simp only [Act.put, List.setIfInBounds_toArray, List.set_cons_zero, List.set_cons_succ])
                  refine wpAnyH_ready (rs := [28]) (by kernel_rfl) (by simp) ?_
                  refine (AllReadyH.cons (o := { dst := some 50, op := Op.call { callee := Callee.value (Operand.func 25), args := #[Operand.tmp 44, Operand.tmp 49], argTypes := #[23, 23] }, type := 4, pos := "judge.go:114", after := #[{ on := 22, ground := Ground.data }, { on := 27, ground := Ground.data }, { on := 20, ground := Ground.chain }, { on := 20, ground := Ground.guard }], guard := some (20, true) }) rfl (fun K hK => ?_) AllReadyH.nil)
                  go_simp
                  refine (RS.out _ K5).mono ?_
                  rintro o w6 ⟨rfl, KX⟩
                  have K6 : Kept (fun _ => False) wd w6 := Kept.trans K5 KX (fun _ _ z => z)
                  refine hK.out _ _ ?_ (fun hHeld => ?_)
                  · exact SH.out w6 K6
                  clear hK K KX
                  (try simp only [Act.put, List.setIfInBounds_toArray, List.set_cons_zero, List.set_cons_succ])
                  refine wpAnyH_take (i := 29) (oi := { dst := some 51, op := Op.pick (Operand.tmp 42) (Operand.tmp 50) (Operand.const (Value.bool false)), type := 4, pos := "judge.go:114", after := #[{ on := 20, ground := Ground.data }, { on := 28, ground := Ground.data }], guard := none }) (v := .bool false) rfl (by kernel_rfl) (by kernel_rfl) (by kernel_rfl) (fun _ _ _ h => h) (Or.inl ⟨by rfl, ?_⟩) (by assumption) ?_
                  · intro w9 hSw
                    (try dsimp only at hSw)
                    go_simp
                  (try simp only [Act.put, List.setIfInBounds_toArray, List.set_cons_zero, List.set_cons_succ])
                  refine wpAnyH_done (by kernel_rfl) ?_ _
                  go_wp2_with fail
                  go_roundw
                  case rel => exact ⟨j + 1, by go_num, by omega, T.out.2.1.trans K6 (fun _ _ z => z), NX.out (fun z => by have h1 := z.2.2.2; unfold Cl.told at h1; rw [if_neg (show ¬ d.cl.st = 76 by show ¬ d.st = 76; rw [HX.out.2.2.1]; decide)] at h1; injection h1 with h1; have h2 := HX.out.2.2.2.2; rw [decide_eq_true (show d.val = mi'.val from h1)] at h2; cases h2)⟩
                  case measure => simp [intOf] <;> omega
                case true =>
                  refine wp_region_held_drew (S := (fun V => V.cell? ⟨g, j, none⟩ = some (.bool false) ∧ V.cell? ⟨D, 0, none⟩ = some (.int .i64 d.client) ∧ V.cell? ⟨D, 1, none⟩ = some (.int .i64 d.op) ∧ V.cell? ⟨D, 2, none⟩ = some (.bool false) ∧ V.cell? ⟨D, 3, none⟩ = some (.string d.key) ∧ V.cell? ⟨D, 4, none⟩ = some (.slice d.va d.vn d.vc) ∧ V.cell? ⟨D, 5, none⟩ = some (.int .i64 0) ∧ V.cell? ⟨D, 6, none⟩ = some (.int .i64 d.frm) ∧ V.cell? ⟨D, 7, none⟩ = some (.int .i64 d.to) ∧ V.cell? ⟨D, 8, none⟩ = some (.bool d.opn) ∧ V.cell? ⟨D, 9, none⟩ = some (.int .i64 d.tx) ∧ V.cell? ⟨D, 10, none⟩ = some (.int .i64 d.ty) ∧ V.cell? ⟨b8, off8 + i * 11 + 4, none⟩ = some (.slice mi'.va mi'.vn mi'.vc))) (by kernel_rfl) ?_ (fun hHeld => ?_)
                  · exact SH.out _ kd
                  refine wpAnyH_take (i := 0) (oi := { dst := some 22, op := Op.move (Operand.tmp 1), type := 44, pos := "judge.go:114", after := #[], guard := none }) (v := .slice (some ⟨g, 0, none⟩) n n) rfl (by kernel_rfl) (by kernel_rfl) (by kernel_rfl) (fun _ _ _ h => h) (Or.inl ⟨by rfl, ?_⟩) (by assumption) ?_
                  · intro w9 hSw
                    (try dsimp only at hSw)
                    go_simp
                  (try simp only [Act.put, List.setIfInBounds_toArray, List.set_cons_zero, List.set_cons_succ])
                  refine wpAnyH_take (i := 1) (oi := { dst := some 23, op := Op.move (Operand.tmp 7), type := 3, pos := "judge.go:114", after := #[], guard := none }) (v := .int .i64 (j : Int)) rfl (by kernel_rfl) (by kernel_rfl) (by kernel_rfl) (fun _ _ _ h => h) (Or.inl ⟨by rfl, ?_⟩) (by assumption) ?_
                  · intro w9 hSw
                    (try dsimp only at hSw)
                    go_simp
                  (try simp only [Act.put, List.setIfInBounds_toArray, List.set_cons_zero, List.set_cons_succ])
                  refine wpAnyH_take (i := 2) (oi := { dst := some 24, op := Op.indexAddr 44 (Operand.tmp 22) (Operand.tmp 23), type := 0, pos := "judge.go:114", after := #[{ on := 0, ground := Ground.data }, { on := 1, ground := Ground.data }], guard := none }) (v := .pointer (some ⟨g, j, none⟩)) rfl (by kernel_rfl) (by kernel_rfl) (by kernel_rfl) (fun _ _ _ h => h) (Or.inl ⟨by rfl, ?_⟩) (by assumption) ?_
                  · intro w9 hSw
                    (try dsimp only at hSw)
                    go_simp
                  (try simp only [Act.put, List.setIfInBounds_toArray, List.set_cons_zero, List.set_cons_succ])
                  refine wpAnyH_take (i := 3) (oi := { dst := some 25, op := Op.load 4 (Operand.tmp 24), type := 4, pos := "judge.go:114", after := #[{ on := 2, ground := Ground.data }], guard := none }) (v := .bool false) rfl (by kernel_rfl) (by kernel_rfl) (by kernel_rfl) (fun _ _ _ h => h) (Or.inl ⟨by rfl, ?_⟩) (by assumption) ?_
                  · intro w9 hSw
                    (try dsimp only at hSw)
                    go_simp
                  (try simp only [Act.put, List.setIfInBounds_toArray, List.set_cons_zero, List.set_cons_succ])
                  refine wpAnyH_take (i := 4) (oi := { dst := some 26, op := Op.unOp UnOp.not 4 (Operand.tmp 25), type := 4, pos := "judge.go:114", after := #[{ on := 3, ground := Ground.data }], guard := none }) (v := .bool true) rfl (by kernel_rfl) (by kernel_rfl) (by kernel_rfl) (fun _ _ _ h => h) (Or.inl ⟨by rfl, ?_⟩) (by assumption) ?_
                  · intro w9 hSw
                    (try dsimp only at hSw)
                    go_simp
                  (try simp only [Act.put, List.setIfInBounds_toArray, List.set_cons_zero, List.set_cons_succ])
                  refine wpAnyH_take (i := 5) (oi := { dst := some 27, op := Op.move (Operand.tmp 26), type := 4, pos := "judge.go:114", after := #[{ on := 4, ground := Ground.data }], guard := none }) (v := .bool true) rfl (by kernel_rfl) (by kernel_rfl) (by kernel_rfl) (fun _ _ _ h => h) (Or.inl ⟨by rfl, ?_⟩) (by assumption) ?_
                  · intro w9 hSw
                    (try dsimp only at hSw)
                    go_simp
                  (try simp only [Act.put, List.setIfInBounds_toArray, List.set_cons_zero, List.set_cons_succ])
                  refine wpAnyH_take (i := 6) (oi := { dst := some 28, op := Op.fieldAddr 28 (Operand.tmp 8) 2, type := 0, pos := "judge.go:114", after := #[{ on := 5, ground := Ground.guard }], guard := some (5, true) }) (v := .pointer (some ⟨D, 2, none⟩)) rfl (by kernel_rfl) (by kernel_rfl) (by kernel_rfl) (fun _ _ _ h => h) (Or.inl ⟨by rfl, ?_⟩) (by assumption) ?_
                  · intro w9 hSw
                    (try dsimp only at hSw)
                    go_simp
                  (try simp only [Act.put, List.setIfInBounds_toArray, List.set_cons_zero, List.set_cons_succ])
                  refine wpAnyH_take (i := 7) (oi := { dst := some 29, op := Op.load 4 (Operand.tmp 28), type := 4, pos := "judge.go:114", after := #[{ on := 6, ground := Ground.data }, { on := 5, ground := Ground.guard }], guard := some (5, true) }) (v := .bool false) rfl (by kernel_rfl) (by kernel_rfl) (by kernel_rfl) (fun _ _ _ h => h) (Or.inl ⟨by rfl, ?_⟩) (by assumption) ?_
                  · intro w9 hSw
                    (try dsimp only at hSw)
                    go_simp
                  (try simp only [Act.put, List.setIfInBounds_toArray, List.set_cons_zero, List.set_cons_succ])
                  refine wpAnyH_take (i := 8) (oi := { dst := some 30, op := Op.unOp UnOp.not 4 (Operand.tmp 29), type := 4, pos := "judge.go:114", after := #[{ on := 7, ground := Ground.data }, { on := 5, ground := Ground.guard }], guard := some (5, true) }) (v := .bool true) rfl (by kernel_rfl) (by kernel_rfl) (by kernel_rfl) (fun _ _ _ h => h) (Or.inl ⟨by rfl, ?_⟩) (by assumption) ?_
                  · intro w9 hSw
                    (try dsimp only at hSw)
                    go_simp
                  (try simp only [Act.put, List.setIfInBounds_toArray, List.set_cons_zero, List.set_cons_succ])
                  refine wpAnyH_take (i := 9) (oi := { dst := some 31, op := Op.pick (Operand.tmp 27) (Operand.tmp 30) (Operand.const (Value.bool false)), type := 4, pos := "judge.go:114", after := #[{ on := 5, ground := Ground.data }, { on := 8, ground := Ground.data }], guard := none }) (v := .bool true) rfl (by kernel_rfl) (by kernel_rfl) (by kernel_rfl) (fun _ _ _ h => h) (Or.inl ⟨by rfl, ?_⟩) (by assumption) ?_
                  · intro w9 hSw
                    (try dsimp only at hSw)
                    go_simp
                  (try simp only [Act.put, List.setIfInBounds_toArray, List.set_cons_zero, List.set_cons_succ])
                  refine wpAnyH_take (i := 10) (oi := { dst := some 32, op := Op.move (Operand.tmp 31), type := 4, pos := "judge.go:114", after := #[{ on := 9, ground := Ground.data }, { on := 5, ground := Ground.chain }], guard := none }) (v := .bool true) rfl (by kernel_rfl) (by kernel_rfl) (by kernel_rfl) (fun _ _ _ h => h) (Or.inl ⟨by rfl, ?_⟩) (by assumption) ?_
                  · intro w9 hSw
                    (try dsimp only at hSw)
                    go_simp
                  (try simp only [Act.put, List.setIfInBounds_toArray, List.set_cons_zero, List.set_cons_succ])
                  refine wpAnyH_take (i := 11) (oi := { dst := some 33, op := Op.load 28 (Operand.tmp 8), type := 28, pos := "judge.go:114", after := #[{ on := 10, ground := Ground.guard }], guard := some (10, true) }) (v := .agg #[.int .i64 d.client, .int .i64 d.op, .bool false, .string d.key, .slice d.va d.vn d.vc, .int .i64 0, .int .i64 d.frm, .int .i64 d.to, .bool d.opn, .int .i64 d.tx, .int .i64 d.ty]) rfl (by kernel_rfl) (by kernel_rfl) (by kernel_rfl) (fun _ _ _ h => h) (Or.inl ⟨by rfl, ?_⟩) (by assumption) ?_
                  · intro w9 hSw
                    (try dsimp only at hSw)
                    go_simp
                  (try simp only [Act.put, List.setIfInBounds_toArray, List.set_cons_zero, List.set_cons_succ])
                  refine wpAnyH_ready (rs := [12]) (by kernel_rfl) (by simp) ?_
                  refine (AllReadyH.cons (o := { dst := some 34, op := Op.call { callee := Callee.value (Operand.func 6), args := #[Operand.tmp 33], argTypes := #[28] }, type := 3, pos := "judge.go:114", after := #[{ on := 11, ground := Ground.data }, { on := 10, ground := Ground.chain }, { on := 10, ground := Ground.guard }], guard := some (10, true) }) rfl (fun K hK => ?_) AllReadyH.nil)
                  go_simp
                  refine (RD.out _ kd).mono ?_
                  rintro o w5 ⟨rfl, KX⟩
                  have K5 : Kept (fun _ => False) wd w5 := Kept.trans kd KX (fun _ _ z => z)
                  refine hK.out _ _ ?_ (fun hHeld => ?_)
                  · exact SH.out w5 K5
                  clear hK K KX
                  (try simp only [Act.put, List.setIfInBounds_toArray, List.set_cons_zero, List.set_cons_succ])
                  refine wpAnyH_take (i := 13) (oi := { dst := some 35, op := Op.binOp BinOp.eql 3 (Operand.tmp 34) (Operand.const (Value.int IntKind.i64 2)) 3, type := 4, pos := "judge.go:114", after := #[{ on := 12, ground := Ground.data }, { on := 10, ground := Ground.guard }], guard := some (10, true) }) (v := .bool true) rfl (by kernel_rfl) (by kernel_rfl) (by kernel_rfl) (fun _ _ _ h => h) (Or.inl ⟨by rfl, ?_⟩) (by assumption) ?_
                  · intro w9 hSw
                    (try dsimp only at hSw)
                    go_simp
                  (try simp only [Act.put, List.setIfInBounds_toArray, List.set_cons_zero, List.set_cons_succ])
                  refine wpAnyH_take (i := 14) (oi := { dst := some 36, op := Op.pick (Operand.tmp 32) (Operand.tmp 35) (Operand.const (Value.bool false)), type := 4, pos := "judge.go:114", after := #[{ on := 10, ground := Ground.data }, { on := 13, ground := Ground.data }], guard := none }) (v := .bool true) rfl (by kernel_rfl) (by kernel_rfl) (by kernel_rfl) (fun _ _ _ h => h) (Or.inl ⟨by rfl, ?_⟩) (by assumption) ?_
                  · intro w9 hSw
                    (try dsimp only at hSw)
                    go_simp
                  (try simp only [Act.put, List.setIfInBounds_toArray, List.set_cons_zero, List.set_cons_succ])
                  refine wpAnyH_take (i := 15) (oi := { dst := some 37, op := Op.move (Operand.tmp 36), type := 4, pos := "judge.go:114", after := #[{ on := 14, ground := Ground.data }, { on := 12, ground := Ground.chain }], guard := none }) (v := .bool true) rfl (by kernel_rfl) (by kernel_rfl) (by kernel_rfl) (fun _ _ _ h => h) (Or.inl ⟨by rfl, ?_⟩) (by assumption) ?_
                  · intro w9 hSw
                    (try dsimp only at hSw)
                    go_simp
                  (try simp only [Act.put, List.setIfInBounds_toArray, List.set_cons_zero, List.set_cons_succ])
                  refine wpAnyH_take (i := 16) (oi := { dst := some 38, op := Op.fieldAddr 28 (Operand.tmp 8) 5, type := 0, pos := "judge.go:114", after := #[{ on := 15, ground := Ground.guard }], guard := some (15, true) }) (v := .pointer (some ⟨D, 5, none⟩)) rfl (by kernel_rfl) (by kernel_rfl) (by kernel_rfl) (fun _ _ _ h => h) (Or.inl ⟨by rfl, ?_⟩) (by assumption) ?_
                  · intro w9 hSw
                    (try dsimp only at hSw)
                    go_simp
                  (try simp only [Act.put, List.setIfInBounds_toArray, List.set_cons_zero, List.set_cons_succ])
                  refine wpAnyH_take (i := 17) (oi := { dst := some 39, op := Op.load 24 (Operand.tmp 38), type := 24, pos := "judge.go:114", after := #[{ on := 16, ground := Ground.data }, { on := 15, ground := Ground.guard }], guard := some (15, true) }) (v := .int .i64 0) rfl (by kernel_rfl) (by kernel_rfl) (by kernel_rfl) (fun _ _ _ h => h) (Or.inl ⟨by rfl, ?_⟩) (by assumption) ?_
                  · intro w9 hSw
                    (try dsimp only at hSw)
                    go_simp
                  (try simp only [Act.put, List.setIfInBounds_toArray, List.set_cons_zero, List.set_cons_succ])
                  refine wpAnyH_take (i := 18) (oi := { dst := some 40, op := Op.binOp BinOp.eql 24 (Operand.tmp 39) (Operand.const (Value.int IntKind.i64 0)) 24, type := 4, pos := "judge.go:114", after := #[{ on := 17, ground := Ground.data }, { on := 15, ground := Ground.guard }], guard := some (15, true) }) (v := .bool true) rfl (by kernel_rfl) (by kernel_rfl) (by kernel_rfl) (fun _ _ _ h => h) (Or.inl ⟨by rfl, ?_⟩) (by assumption) ?_
                  · intro w9 hSw
                    (try dsimp only at hSw)
                    go_simp
                  (try simp only [Act.put, List.setIfInBounds_toArray, List.set_cons_zero, List.set_cons_succ])
                  refine wpAnyH_take (i := 19) (oi := { dst := some 41, op := Op.pick (Operand.tmp 37) (Operand.tmp 40) (Operand.const (Value.bool false)), type := 4, pos := "judge.go:114", after := #[{ on := 15, ground := Ground.data }, { on := 18, ground := Ground.data }], guard := none }) (v := .bool true) rfl (by kernel_rfl) (by kernel_rfl) (by kernel_rfl) (fun _ _ _ h => h) (Or.inl ⟨by rfl, ?_⟩) (by assumption) ?_
                  · intro w9 hSw
                    (try dsimp only at hSw)
                    go_simp
                  (try simp only [Act.put, List.setIfInBounds_toArray, List.set_cons_zero, List.set_cons_succ])
                  refine wpAnyH_take (i := 20) (oi := { dst := some 42, op := Op.move (Operand.tmp 41), type := 4, pos := "judge.go:114", after := #[{ on := 19, ground := Ground.data }, { on := 15, ground := Ground.chain }], guard := none }) (v := .bool true) rfl (by kernel_rfl) (by kernel_rfl) (by kernel_rfl) (fun _ _ _ h => h) (Or.inl ⟨by rfl, ?_⟩) (by assumption) ?_
                  · intro w9 hSw
                    (try dsimp only at hSw)
                    go_simp
                  (try simp only [Act.put, List.setIfInBounds_toArray, List.set_cons_zero, List.set_cons_succ])
                  refine wpAnyH_take (i := 21) (oi := { dst := some 43, op := Op.fieldAddr 28 (Operand.tmp 8) 4, type := 0, pos := "judge.go:114", after := #[{ on := 20, ground := Ground.guard }], guard := some (20, true) }) (v := .pointer (some ⟨D, 4, none⟩)) rfl (by kernel_rfl) (by kernel_rfl) (by kernel_rfl) (fun _ _ _ h => h) (Or.inl ⟨by rfl, ?_⟩) (by assumption) ?_
                  · intro w9 hSw
                    (try dsimp only at hSw)
                    go_simp
                  (try simp only [Act.put, List.setIfInBounds_toArray, List.set_cons_zero, List.set_cons_succ])
                  refine wpAnyH_take (i := 22) (oi := { dst := some 44, op := Op.load 23 (Operand.tmp 43), type := 23, pos := "judge.go:114", after := #[{ on := 21, ground := Ground.data }, { on := 20, ground := Ground.guard }], guard := some (20, true) }) (v := .slice d.va d.vn d.vc) rfl (by kernel_rfl) (by kernel_rfl) (by kernel_rfl) (fun _ _ _ h => h) (Or.inl ⟨by rfl, ?_⟩) (by assumption) ?_
                  · intro w9 hSw
                    (try dsimp only at hSw)
                    go_simp
                  (try simp only [Act.put, List.setIfInBounds_toArray, List.set_cons_zero, List.set_cons_succ])
                  refine wpAnyH_take (i := 23) (oi := { dst := some 45, op := Op.move (Operand.tmp 0), type := 22, pos := "judge.go:114", after := #[{ on := 20, ground := Ground.guard }], guard := some (20, true) }) (v := .slice (some ⟨b8, off8, none⟩) n c0) rfl (by kernel_rfl) (by kernel_rfl) (by kernel_rfl) (fun _ _ _ h => h) (Or.inl ⟨by rfl, ?_⟩) (by assumption) ?_
                  · intro w9 hSw
                    (try dsimp only at hSw)
                    go_simp
                  (try simp only [Act.put, List.setIfInBounds_toArray, List.set_cons_zero, List.set_cons_succ])
                  refine wpAnyH_take (i := 24) (oi := { dst := some 46, op := Op.move (Operand.tmp 2), type := 3, pos := "judge.go:114", after := #[{ on := 20, ground := Ground.guard }], guard := some (20, true) }) (v := .int .i64 (i : Int)) rfl (by kernel_rfl) (by kernel_rfl) (by kernel_rfl) (fun _ _ _ h => h) (Or.inl ⟨by rfl, ?_⟩) (by assumption) ?_
                  · intro w9 hSw
                    (try dsimp only at hSw)
                    go_simp
                  (try simp only [Act.put, List.setIfInBounds_toArray, List.set_cons_zero, List.set_cons_succ])
                  refine wpAnyH_take (i := 25) (oi := { dst := some 47, op := Op.indexAddr 22 (Operand.tmp 45) (Operand.tmp 46), type := 0, pos := "judge.go:114", after := #[{ on := 23, ground := Ground.data }, { on := 24, ground := Ground.data }, { on := 20, ground := Ground.guard }], guard := some (20, true) }) (v := .pointer (some ⟨b8, off8 + i * 11, none⟩)) rfl (by kernel_rfl) (by kernel_rfl) (by kernel_rfl) (fun _ _ _ h => h) (Or.inl ⟨by rfl, ?_⟩) (by assumption) ?_
                  · intro w9 hSw
                    (try dsimp only at hSw)
                    go_simp
                  (try simp only [Act.put, List.setIfInBounds_toArray, List.set_cons_zero, List.set_cons_succ])
                  refine wpAnyH_take (i := 26) (oi := { dst := some 48, op := Op.fieldAddr 28 (Operand.tmp 47) 4, type := 0, pos := "judge.go:114", after := #[{ on := 25, ground := Ground.data }, { on := 20, ground := Ground.guard }], guard := some (20, true) }) (v := .pointer (some ⟨b8, off8 + i * 11 + 4, none⟩)) rfl (by kernel_rfl) (by kernel_rfl) (by kernel_rfl) (fun _ _ _ h => h) (Or.inl ⟨by rfl, ?_⟩) (by assumption) ?_
                  · intro w9 hSw
                    (try dsimp only at hSw)
                    go_simp
                  (try simp only [Act.put, List.setIfInBounds_toArray, List.set_cons_zero, List.set_cons_succ])
                  refine wpAnyH_take (i := 27) (oi := { dst := some 49, op := Op.load 23 (Operand.tmp 48), type := 23, pos := "judge.go:114", after := #[{ on := 26, ground := Ground.data }, { on := 20, ground := Ground.guard }], guard := some (20, true) }) (v := .slice mi'.va mi'.vn mi'.vc) rfl (by kernel_rfl) (by kernel_rfl) (by kernel_rfl) (fun _ _ _ h => h) (Or.inl ⟨by rfl, ?_⟩) (by assumption) ?_
                  · intro w9 hSw
                    (try dsimp only at hSw)
                    go_simp
                  (try simp only [Act.put, List.setIfInBounds_toArray, List.set_cons_zero, List.set_cons_succ])
                  refine wpAnyH_ready (rs := [28]) (by kernel_rfl) (by simp) ?_
                  refine (AllReadyH.cons (o := { dst := some 50, op := Op.call { callee := Callee.value (Operand.func 25), args := #[Operand.tmp 44, Operand.tmp 49], argTypes := #[23, 23] }, type := 4, pos := "judge.go:114", after := #[{ on := 22, ground := Ground.data }, { on := 27, ground := Ground.data }, { on := 20, ground := Ground.chain }, { on := 20, ground := Ground.guard }], guard := some (20, true) }) rfl (fun K hK => ?_) AllReadyH.nil)
                  go_simp
                  refine (RS.out _ K5).mono ?_
                  rintro o w6 ⟨rfl, KX⟩
                  have K6 : Kept (fun _ => False) wd w6 := Kept.trans K5 KX (fun _ _ z => z)
                  refine hK.out _ _ ?_ (fun hHeld => ?_)
                  · exact SH.out w6 K6
                  clear hK K KX
                  (try simp only [Act.put, List.setIfInBounds_toArray, List.set_cons_zero, List.set_cons_succ])
                  refine wpAnyH_take (i := 29) (oi := { dst := some 51, op := Op.pick (Operand.tmp 42) (Operand.tmp 50) (Operand.const (Value.bool false)), type := 4, pos := "judge.go:114", after := #[{ on := 20, ground := Ground.data }, { on := 28, ground := Ground.data }], guard := none }) (v := .bool true) rfl (by kernel_rfl) (by kernel_rfl) (by kernel_rfl) (fun _ _ _ h => h) (Or.inl ⟨by rfl, ?_⟩) (by assumption) ?_
                  · intro w9 hSw
                    (try dsimp only at hSw)
                    go_simp
                  (try simp only [Act.put, List.setIfInBounds_toArray, List.set_cons_zero, List.set_cons_succ])
                  refine wpAnyH_done (by kernel_rfl) ?_ _
                  go_wp2_with fail
                  go_ret
                  refine RetB.mk true rfl ⟨⟨fun _ => .inr ⟨j, d.cl, by rw [List.getElem?_map, HD.out]; rfl, ?_, HX.out.2.1, of_decide_eq_false HX.out.1, ?_⟩, fun _ => rfl⟩, T.out.2.1.trans K6 (fun _ _ z => z)⟩
                  · have h1 := pn_two.1 HX.out.2.2.2.1.symm
                    unfold Cl.must at h1
                    rw [Bool.and_eq_true] at h1
                    exact h1.1
                  · unfold Cl.told
                    rw [if_neg (show ¬ d.cl.st = 76 by show ¬ d.st = 76; rw [HX.out.2.2.1]; decide)]
                    have h2 := of_decide_eq_true HX.out.2.2.2.2.symm
                    exact congrArg some h2
              case neg =>
                have s0' : (st == 0) = false := by simp [s0]
                refine wp_region_held_drew (S := (fun V => V.cell? ⟨g, j, none⟩ = some (.bool false) ∧ V.cell? ⟨D, 0, none⟩ = some (.int .i64 d.client) ∧ V.cell? ⟨D, 1, none⟩ = some (.int .i64 d.op) ∧ V.cell? ⟨D, 2, none⟩ = some (.bool false) ∧ V.cell? ⟨D, 3, none⟩ = some (.string d.key) ∧ V.cell? ⟨D, 4, none⟩ = some (.slice d.va d.vn d.vc) ∧ V.cell? ⟨D, 5, none⟩ = some (.int .i64 st) ∧ V.cell? ⟨D, 6, none⟩ = some (.int .i64 d.frm) ∧ V.cell? ⟨D, 7, none⟩ = some (.int .i64 d.to) ∧ V.cell? ⟨D, 8, none⟩ = some (.bool d.opn) ∧ V.cell? ⟨D, 9, none⟩ = some (.int .i64 d.tx) ∧ V.cell? ⟨D, 10, none⟩ = some (.int .i64 d.ty) ∧ V.cell? ⟨b8, off8 + i * 11 + 4, none⟩ = some (.slice mi'.va mi'.vn mi'.vc))) (by kernel_rfl) ?_ (fun hHeld => ?_)
                · exact SH.out _ kd
                refine wpAnyH_take (i := 0) (oi := { dst := some 22, op := Op.move (Operand.tmp 1), type := 44, pos := "judge.go:114", after := #[], guard := none }) (v := .slice (some ⟨g, 0, none⟩) n n) rfl (by kernel_rfl) (by kernel_rfl) (by kernel_rfl) (fun _ _ _ h => h) (Or.inl ⟨by rfl, ?_⟩) (by assumption) ?_
                · intro w9 hSw
                  (try dsimp only at hSw)
                  go_simp
                (try simp only [Act.put, List.setIfInBounds_toArray, List.set_cons_zero, List.set_cons_succ])
                refine wpAnyH_take (i := 1) (oi := { dst := some 23, op := Op.move (Operand.tmp 7), type := 3, pos := "judge.go:114", after := #[], guard := none }) (v := .int .i64 (j : Int)) rfl (by kernel_rfl) (by kernel_rfl) (by kernel_rfl) (fun _ _ _ h => h) (Or.inl ⟨by rfl, ?_⟩) (by assumption) ?_
                · intro w9 hSw
                  (try dsimp only at hSw)
                  go_simp
                (try simp only [Act.put, List.setIfInBounds_toArray, List.set_cons_zero, List.set_cons_succ])
                refine wpAnyH_take (i := 2) (oi := { dst := some 24, op := Op.indexAddr 44 (Operand.tmp 22) (Operand.tmp 23), type := 0, pos := "judge.go:114", after := #[{ on := 0, ground := Ground.data }, { on := 1, ground := Ground.data }], guard := none }) (v := .pointer (some ⟨g, j, none⟩)) rfl (by kernel_rfl) (by kernel_rfl) (by kernel_rfl) (fun _ _ _ h => h) (Or.inl ⟨by rfl, ?_⟩) (by assumption) ?_
                · intro w9 hSw
                  (try dsimp only at hSw)
                  go_simp
                (try simp only [Act.put, List.setIfInBounds_toArray, List.set_cons_zero, List.set_cons_succ])
                refine wpAnyH_take (i := 3) (oi := { dst := some 25, op := Op.load 4 (Operand.tmp 24), type := 4, pos := "judge.go:114", after := #[{ on := 2, ground := Ground.data }], guard := none }) (v := .bool false) rfl (by kernel_rfl) (by kernel_rfl) (by kernel_rfl) (fun _ _ _ h => h) (Or.inl ⟨by rfl, ?_⟩) (by assumption) ?_
                · intro w9 hSw
                  (try dsimp only at hSw)
                  go_simp
                (try simp only [Act.put, List.setIfInBounds_toArray, List.set_cons_zero, List.set_cons_succ])
                refine wpAnyH_take (i := 4) (oi := { dst := some 26, op := Op.unOp UnOp.not 4 (Operand.tmp 25), type := 4, pos := "judge.go:114", after := #[{ on := 3, ground := Ground.data }], guard := none }) (v := .bool true) rfl (by kernel_rfl) (by kernel_rfl) (by kernel_rfl) (fun _ _ _ h => h) (Or.inl ⟨by rfl, ?_⟩) (by assumption) ?_
                · intro w9 hSw
                  (try dsimp only at hSw)
                  go_simp
                (try simp only [Act.put, List.setIfInBounds_toArray, List.set_cons_zero, List.set_cons_succ])
                refine wpAnyH_take (i := 5) (oi := { dst := some 27, op := Op.move (Operand.tmp 26), type := 4, pos := "judge.go:114", after := #[{ on := 4, ground := Ground.data }], guard := none }) (v := .bool true) rfl (by kernel_rfl) (by kernel_rfl) (by kernel_rfl) (fun _ _ _ h => h) (Or.inl ⟨by rfl, ?_⟩) (by assumption) ?_
                · intro w9 hSw
                  (try dsimp only at hSw)
                  go_simp
                (try simp only [Act.put, List.setIfInBounds_toArray, List.set_cons_zero, List.set_cons_succ])
                refine wpAnyH_take (i := 6) (oi := { dst := some 28, op := Op.fieldAddr 28 (Operand.tmp 8) 2, type := 0, pos := "judge.go:114", after := #[{ on := 5, ground := Ground.guard }], guard := some (5, true) }) (v := .pointer (some ⟨D, 2, none⟩)) rfl (by kernel_rfl) (by kernel_rfl) (by kernel_rfl) (fun _ _ _ h => h) (Or.inl ⟨by rfl, ?_⟩) (by assumption) ?_
                · intro w9 hSw
                  (try dsimp only at hSw)
                  go_simp
                (try simp only [Act.put, List.setIfInBounds_toArray, List.set_cons_zero, List.set_cons_succ])
                refine wpAnyH_take (i := 7) (oi := { dst := some 29, op := Op.load 4 (Operand.tmp 28), type := 4, pos := "judge.go:114", after := #[{ on := 6, ground := Ground.data }, { on := 5, ground := Ground.guard }], guard := some (5, true) }) (v := .bool false) rfl (by kernel_rfl) (by kernel_rfl) (by kernel_rfl) (fun _ _ _ h => h) (Or.inl ⟨by rfl, ?_⟩) (by assumption) ?_
                · intro w9 hSw
                  (try dsimp only at hSw)
                  go_simp
                (try simp only [Act.put, List.setIfInBounds_toArray, List.set_cons_zero, List.set_cons_succ])
                refine wpAnyH_take (i := 8) (oi := { dst := some 30, op := Op.unOp UnOp.not 4 (Operand.tmp 29), type := 4, pos := "judge.go:114", after := #[{ on := 7, ground := Ground.data }, { on := 5, ground := Ground.guard }], guard := some (5, true) }) (v := .bool true) rfl (by kernel_rfl) (by kernel_rfl) (by kernel_rfl) (fun _ _ _ h => h) (Or.inl ⟨by rfl, ?_⟩) (by assumption) ?_
                · intro w9 hSw
                  (try dsimp only at hSw)
                  go_simp
                (try simp only [Act.put, List.setIfInBounds_toArray, List.set_cons_zero, List.set_cons_succ])
                refine wpAnyH_take (i := 9) (oi := { dst := some 31, op := Op.pick (Operand.tmp 27) (Operand.tmp 30) (Operand.const (Value.bool false)), type := 4, pos := "judge.go:114", after := #[{ on := 5, ground := Ground.data }, { on := 8, ground := Ground.data }], guard := none }) (v := .bool true) rfl (by kernel_rfl) (by kernel_rfl) (by kernel_rfl) (fun _ _ _ h => h) (Or.inl ⟨by rfl, ?_⟩) (by assumption) ?_
                · intro w9 hSw
                  (try dsimp only at hSw)
                  go_simp
                (try simp only [Act.put, List.setIfInBounds_toArray, List.set_cons_zero, List.set_cons_succ])
                refine wpAnyH_take (i := 10) (oi := { dst := some 32, op := Op.move (Operand.tmp 31), type := 4, pos := "judge.go:114", after := #[{ on := 9, ground := Ground.data }, { on := 5, ground := Ground.chain }], guard := none }) (v := .bool true) rfl (by kernel_rfl) (by kernel_rfl) (by kernel_rfl) (fun _ _ _ h => h) (Or.inl ⟨by rfl, ?_⟩) (by assumption) ?_
                · intro w9 hSw
                  (try dsimp only at hSw)
                  go_simp
                (try simp only [Act.put, List.setIfInBounds_toArray, List.set_cons_zero, List.set_cons_succ])
                refine wpAnyH_take (i := 11) (oi := { dst := some 33, op := Op.load 28 (Operand.tmp 8), type := 28, pos := "judge.go:114", after := #[{ on := 10, ground := Ground.guard }], guard := some (10, true) }) (v := .agg #[.int .i64 d.client, .int .i64 d.op, .bool false, .string d.key, .slice d.va d.vn d.vc, .int .i64 st, .int .i64 d.frm, .int .i64 d.to, .bool d.opn, .int .i64 d.tx, .int .i64 d.ty]) rfl (by kernel_rfl) (by kernel_rfl) (by kernel_rfl) (fun _ _ _ h => h) (Or.inl ⟨by rfl, ?_⟩) (by assumption) ?_
                · intro w9 hSw
                  (try dsimp only at hSw)
                  go_simp
                (try simp only [Act.put, List.setIfInBounds_toArray, List.set_cons_zero, List.set_cons_succ])
                refine wpAnyH_ready (rs := [12]) (by kernel_rfl) (by simp) ?_
                refine (AllReadyH.cons (o := { dst := some 34, op := Op.call { callee := Callee.value (Operand.func 6), args := #[Operand.tmp 33], argTypes := #[28] }, type := 3, pos := "judge.go:114", after := #[{ on := 11, ground := Ground.data }, { on := 10, ground := Ground.chain }, { on := 10, ground := Ground.guard }], guard := some (10, true) }) rfl (fun K hK => ?_) AllReadyH.nil)
                go_simp
                refine (RD.out _ kd).mono ?_
                rintro o w5 ⟨rfl, KX⟩
                have K5 : Kept (fun _ => False) wd w5 := Kept.trans kd KX (fun _ _ z => z)
                refine hK.out _ _ ?_ (fun hHeld => ?_)
                · exact SH.out w5 K5
                clear hK K KX
                (try simp only [Act.put, List.setIfInBounds_toArray, List.set_cons_zero, List.set_cons_succ])
                refine wpAnyH_take (i := 13) (oi := { dst := some 35, op := Op.binOp BinOp.eql 3 (Operand.tmp 34) (Operand.const (Value.int IntKind.i64 2)) 3, type := 4, pos := "judge.go:114", after := #[{ on := 12, ground := Ground.data }, { on := 10, ground := Ground.guard }], guard := some (10, true) }) (v := .bool true) rfl (by kernel_rfl) (by kernel_rfl) (by kernel_rfl) (fun _ _ _ h => h) (Or.inl ⟨by rfl, ?_⟩) (by assumption) ?_
                · intro w9 hSw
                  (try dsimp only at hSw)
                  go_simp
                (try simp only [Act.put, List.setIfInBounds_toArray, List.set_cons_zero, List.set_cons_succ])
                refine wpAnyH_take (i := 14) (oi := { dst := some 36, op := Op.pick (Operand.tmp 32) (Operand.tmp 35) (Operand.const (Value.bool false)), type := 4, pos := "judge.go:114", after := #[{ on := 10, ground := Ground.data }, { on := 13, ground := Ground.data }], guard := none }) (v := .bool true) rfl (by kernel_rfl) (by kernel_rfl) (by kernel_rfl) (fun _ _ _ h => h) (Or.inl ⟨by rfl, ?_⟩) (by assumption) ?_
                · intro w9 hSw
                  (try dsimp only at hSw)
                  go_simp
                (try simp only [Act.put, List.setIfInBounds_toArray, List.set_cons_zero, List.set_cons_succ])
                refine wpAnyH_take (i := 15) (oi := { dst := some 37, op := Op.move (Operand.tmp 36), type := 4, pos := "judge.go:114", after := #[{ on := 14, ground := Ground.data }, { on := 12, ground := Ground.chain }], guard := none }) (v := .bool true) rfl (by kernel_rfl) (by kernel_rfl) (by kernel_rfl) (fun _ _ _ h => h) (Or.inl ⟨by rfl, ?_⟩) (by assumption) ?_
                · intro w9 hSw
                  (try dsimp only at hSw)
                  go_simp
                (try simp only [Act.put, List.setIfInBounds_toArray, List.set_cons_zero, List.set_cons_succ])
                refine wpAnyH_take (i := 16) (oi := { dst := some 38, op := Op.fieldAddr 28 (Operand.tmp 8) 5, type := 0, pos := "judge.go:114", after := #[{ on := 15, ground := Ground.guard }], guard := some (15, true) }) (v := .pointer (some ⟨D, 5, none⟩)) rfl (by kernel_rfl) (by kernel_rfl) (by kernel_rfl) (fun _ _ _ h => h) (Or.inl ⟨by rfl, ?_⟩) (by assumption) ?_
                · intro w9 hSw
                  (try dsimp only at hSw)
                  go_simp
                (try simp only [Act.put, List.setIfInBounds_toArray, List.set_cons_zero, List.set_cons_succ])
                refine wpAnyH_take (i := 17) (oi := { dst := some 39, op := Op.load 24 (Operand.tmp 38), type := 24, pos := "judge.go:114", after := #[{ on := 16, ground := Ground.data }, { on := 15, ground := Ground.guard }], guard := some (15, true) }) (v := .int .i64 st) rfl (by kernel_rfl) (by kernel_rfl) (by kernel_rfl) (fun _ _ _ h => h) (Or.inl ⟨by rfl, ?_⟩) (by assumption) ?_
                · intro w9 hSw
                  (try dsimp only at hSw)
                  go_simp
                (try simp only [Act.put, List.setIfInBounds_toArray, List.set_cons_zero, List.set_cons_succ])
                refine wpAnyH_take (i := 18) (oi := { dst := some 40, op := Op.binOp BinOp.eql 24 (Operand.tmp 39) (Operand.const (Value.int IntKind.i64 0)) 24, type := 4, pos := "judge.go:114", after := #[{ on := 17, ground := Ground.data }, { on := 15, ground := Ground.guard }], guard := some (15, true) }) (v := .bool false) rfl (by kernel_rfl) (by kernel_rfl) (by kernel_rfl) (fun _ _ _ h => h) (Or.inl ⟨by rfl, ?_⟩) (by assumption) ?_
                · intro w9 hSw
                  (try dsimp only at hSw)
                  go_simp
                (try simp only [Act.put, List.setIfInBounds_toArray, List.set_cons_zero, List.set_cons_succ])
                refine wpAnyH_take (i := 19) (oi := { dst := some 41, op := Op.pick (Operand.tmp 37) (Operand.tmp 40) (Operand.const (Value.bool false)), type := 4, pos := "judge.go:114", after := #[{ on := 15, ground := Ground.data }, { on := 18, ground := Ground.data }], guard := none }) (v := .bool false) rfl (by kernel_rfl) (by kernel_rfl) (by kernel_rfl) (fun _ _ _ h => h) (Or.inl ⟨by rfl, ?_⟩) (by assumption) ?_
                · intro w9 hSw
                  (try dsimp only at hSw)
                  go_simp
                (try simp only [Act.put, List.setIfInBounds_toArray, List.set_cons_zero, List.set_cons_succ])
                refine wpAnyH_take (i := 20) (oi := { dst := some 42, op := Op.move (Operand.tmp 41), type := 4, pos := "judge.go:114", after := #[{ on := 19, ground := Ground.data }, { on := 15, ground := Ground.chain }], guard := none }) (v := .bool false) rfl (by kernel_rfl) (by kernel_rfl) (by kernel_rfl) (fun _ _ _ h => h) (Or.inl ⟨by rfl, ?_⟩) (by assumption) ?_
                · intro w9 hSw
                  (try dsimp only at hSw)
                  go_simp
                (try simp only [Act.put, List.setIfInBounds_toArray, List.set_cons_zero, List.set_cons_succ])
                refine wpAnyH_take (i := 21) (oi := { dst := some 43, op := Op.fieldAddr 28 (Operand.tmp 8) 4, type := 0, pos := "judge.go:114", after := #[{ on := 20, ground := Ground.guard }], guard := some (20, true) }) (v := undef) rfl (by kernel_rfl) (by kernel_rfl) (by kernel_rfl) (fun _ _ _ h => h) (Or.inr ⟨by rfl, rfl⟩) (by assumption) ?_
                (try simp only [Act.put, List.setIfInBounds_toArray, List.set_cons_zero, List.set_cons_succ])
                refine wpAnyH_take (i := 22) (oi := { dst := some 44, op := Op.load 23 (Operand.tmp 43), type := 23, pos := "judge.go:114", after := #[{ on := 21, ground := Ground.data }, { on := 20, ground := Ground.guard }], guard := some (20, true) }) (v := undef) rfl (by kernel_rfl) (by kernel_rfl) (by kernel_rfl) (fun _ _ _ h => h) (Or.inr ⟨by rfl, rfl⟩) (by assumption) ?_
                (try simp only [Act.put, List.setIfInBounds_toArray, List.set_cons_zero, List.set_cons_succ])
                refine wpAnyH_take (i := 23) (oi := { dst := some 45, op := Op.move (Operand.tmp 0), type := 22, pos := "judge.go:114", after := #[{ on := 20, ground := Ground.guard }], guard := some (20, true) }) (v := undef) rfl (by kernel_rfl) (by kernel_rfl) (by kernel_rfl) (fun _ _ _ h => h) (Or.inr ⟨by rfl, rfl⟩) (by assumption) ?_
                (try simp only [Act.put, List.setIfInBounds_toArray, List.set_cons_zero, List.set_cons_succ])
                refine wpAnyH_take (i := 24) (oi := { dst := some 46, op := Op.move (Operand.tmp 2), type := 3, pos := "judge.go:114", after := #[{ on := 20, ground := Ground.guard }], guard := some (20, true) }) (v := undef) rfl (by kernel_rfl) (by kernel_rfl) (by kernel_rfl) (fun _ _ _ h => h) (Or.inr ⟨by rfl, rfl⟩) (by assumption) ?_
                (try simp only [Act.put, List.setIfInBounds_toArray, List.set_cons_zero, List.set_cons_succ])
                refine wpAnyH_take (i := 25) (oi := { dst := some 47, op := Op.indexAddr 22 (Operand.tmp 45) (Operand.tmp 46), type := 0, pos := "judge.go:114", after := #[{ on := 23, ground := Ground.data }, { on := 24, ground := Ground.data }, { on := 20, ground := Ground.guard }], guard := some (20, true) }) (v := undef) rfl (by kernel_rfl) (by kernel_rfl) (by kernel_rfl) (fun _ _ _ h => h) (Or.inr ⟨by rfl, rfl⟩) (by assumption) ?_
                (try simp only [Act.put, List.setIfInBounds_toArray, List.set_cons_zero, List.set_cons_succ])
                refine wpAnyH_take (i := 26) (oi := { dst := some 48, op := Op.fieldAddr 28 (Operand.tmp 47) 4, type := 0, pos := "judge.go:114", after := #[{ on := 25, ground := Ground.data }, { on := 20, ground := Ground.guard }], guard := some (20, true) }) (v := undef) rfl (by kernel_rfl) (by kernel_rfl) (by kernel_rfl) (fun _ _ _ h => h) (Or.inr ⟨by rfl, rfl⟩) (by assumption) ?_
                (try simp only [Act.put, List.setIfInBounds_toArray, List.set_cons_zero, List.set_cons_succ])
                refine wpAnyH_take (i := 27) (oi := { dst := some 49, op := Op.load 23 (Operand.tmp 48), type := 23, pos := "judge.go:114", after := #[{ on := 26, ground := Ground.data }, { on := 20, ground := Ground.guard }], guard := some (20, true) }) (v := undef) rfl (by kernel_rfl) (by kernel_rfl) (by kernel_rfl) (fun _ _ _ h => h) (Or.inr ⟨by rfl, rfl⟩) (by assumption) ?_
                (try simp only [Act.put, List.setIfInBounds_toArray, List.set_cons_zero, List.set_cons_succ])
                refine wpAnyH_take (i := 28) (oi := { dst := some 50, op := Op.call { callee := Callee.value (Operand.func 25), args := #[Operand.tmp 44, Operand.tmp 49], argTypes := #[23, 23] }, type := 4, pos := "judge.go:114", after := #[{ on := 22, ground := Ground.data }, { on := 27, ground := Ground.data }, { on := 20, ground := Ground.chain }, { on := 20, ground := Ground.guard }], guard := some (20, true) }) (v := undef) rfl (by kernel_rfl) (by kernel_rfl) (by kernel_rfl) (fun _ _ _ h => h) (Or.inr ⟨by rfl, rfl⟩) (by assumption) ?_
                (try simp only [Act.put, List.setIfInBounds_toArray, List.set_cons_zero, List.set_cons_succ])
                refine wpAnyH_take (i := 29) (oi := { dst := some 51, op := Op.pick (Operand.tmp 42) (Operand.tmp 50) (Operand.const (Value.bool false)), type := 4, pos := "judge.go:114", after := #[{ on := 20, ground := Ground.data }, { on := 28, ground := Ground.data }], guard := none }) (v := .bool false) rfl (by kernel_rfl) (by kernel_rfl) (by kernel_rfl) (fun _ _ _ h => h) (Or.inl ⟨by rfl, ?_⟩) (by assumption) ?_
                · intro w9 hSw
                  (try dsimp only at hSw)
                  go_simp
                (try simp only [Act.put, List.setIfInBounds_toArray, List.set_cons_zero, List.set_cons_succ])
                refine wpAnyH_done (by kernel_rfl) ?_ _
                go_wp2_with fail
                go_roundw
                case rel => exact ⟨j + 1, by go_num, by omega, T.out.2.1.trans K5 (fun _ _ z => z), NX.out (fun z => by have h1 := z.1; have h2 := z.2.2.2; unfold Cl.part at h1; rw [show d.cl.put = false from HX.out.2.1] at h1; simp at h1; exact h1.2.elim (fun y => s0 (HX.out.2.2.1.symm.trans y)) (fun y => by unfold Cl.told at h2; rw [if_pos y] at h2; cases h2))⟩
                case measure => simp [intOf] <;> omega
            case neg =>
              have p2' : (pd == 2) = false := by simp [p2]
              refine wp_region_held_drew (S := (fun V => V.cell? ⟨g, j, none⟩ = some (.bool false) ∧ V.cell? ⟨D, 0, none⟩ = some (.int .i64 d.client) ∧ V.cell? ⟨D, 1, none⟩ = some (.int .i64 d.op) ∧ V.cell? ⟨D, 2, none⟩ = some (.bool false) ∧ V.cell? ⟨D, 3, none⟩ = some (.string d.key) ∧ V.cell? ⟨D, 4, none⟩ = some (.slice d.va d.vn d.vc) ∧ V.cell? ⟨D, 5, none⟩ = some (.int .i64 st) ∧ V.cell? ⟨D, 6, none⟩ = some (.int .i64 d.frm) ∧ V.cell? ⟨D, 7, none⟩ = some (.int .i64 d.to) ∧ V.cell? ⟨D, 8, none⟩ = some (.bool d.opn) ∧ V.cell? ⟨D, 9, none⟩ = some (.int .i64 d.tx) ∧ V.cell? ⟨D, 10, none⟩ = some (.int .i64 d.ty) ∧ V.cell? ⟨b8, off8 + i * 11 + 4, none⟩ = some (.slice mi'.va mi'.vn mi'.vc))) (by kernel_rfl) ?_ (fun hHeld => ?_)
              · exact SH.out _ kd
              refine wpAnyH_take (i := 0) (oi := { dst := some 22, op := Op.move (Operand.tmp 1), type := 44, pos := "judge.go:114", after := #[], guard := none }) (v := .slice (some ⟨g, 0, none⟩) n n) rfl (by kernel_rfl) (by kernel_rfl) (by kernel_rfl) (fun _ _ _ h => h) (Or.inl ⟨by rfl, ?_⟩) (by assumption) ?_
              · intro w9 hSw
                (try dsimp only at hSw)
                go_simp
              (try simp only [Act.put, List.setIfInBounds_toArray, List.set_cons_zero, List.set_cons_succ])
              refine wpAnyH_take (i := 1) (oi := { dst := some 23, op := Op.move (Operand.tmp 7), type := 3, pos := "judge.go:114", after := #[], guard := none }) (v := .int .i64 (j : Int)) rfl (by kernel_rfl) (by kernel_rfl) (by kernel_rfl) (fun _ _ _ h => h) (Or.inl ⟨by rfl, ?_⟩) (by assumption) ?_
              · intro w9 hSw
                (try dsimp only at hSw)
                go_simp
              (try simp only [Act.put, List.setIfInBounds_toArray, List.set_cons_zero, List.set_cons_succ])
              refine wpAnyH_take (i := 2) (oi := { dst := some 24, op := Op.indexAddr 44 (Operand.tmp 22) (Operand.tmp 23), type := 0, pos := "judge.go:114", after := #[{ on := 0, ground := Ground.data }, { on := 1, ground := Ground.data }], guard := none }) (v := .pointer (some ⟨g, j, none⟩)) rfl (by kernel_rfl) (by kernel_rfl) (by kernel_rfl) (fun _ _ _ h => h) (Or.inl ⟨by rfl, ?_⟩) (by assumption) ?_
              · intro w9 hSw
                (try dsimp only at hSw)
                go_simp
              (try simp only [Act.put, List.setIfInBounds_toArray, List.set_cons_zero, List.set_cons_succ])
              refine wpAnyH_take (i := 3) (oi := { dst := some 25, op := Op.load 4 (Operand.tmp 24), type := 4, pos := "judge.go:114", after := #[{ on := 2, ground := Ground.data }], guard := none }) (v := .bool false) rfl (by kernel_rfl) (by kernel_rfl) (by kernel_rfl) (fun _ _ _ h => h) (Or.inl ⟨by rfl, ?_⟩) (by assumption) ?_
              · intro w9 hSw
                (try dsimp only at hSw)
                go_simp
              (try simp only [Act.put, List.setIfInBounds_toArray, List.set_cons_zero, List.set_cons_succ])
              refine wpAnyH_take (i := 4) (oi := { dst := some 26, op := Op.unOp UnOp.not 4 (Operand.tmp 25), type := 4, pos := "judge.go:114", after := #[{ on := 3, ground := Ground.data }], guard := none }) (v := .bool true) rfl (by kernel_rfl) (by kernel_rfl) (by kernel_rfl) (fun _ _ _ h => h) (Or.inl ⟨by rfl, ?_⟩) (by assumption) ?_
              · intro w9 hSw
                (try dsimp only at hSw)
                go_simp
              (try simp only [Act.put, List.setIfInBounds_toArray, List.set_cons_zero, List.set_cons_succ])
              refine wpAnyH_take (i := 5) (oi := { dst := some 27, op := Op.move (Operand.tmp 26), type := 4, pos := "judge.go:114", after := #[{ on := 4, ground := Ground.data }], guard := none }) (v := .bool true) rfl (by kernel_rfl) (by kernel_rfl) (by kernel_rfl) (fun _ _ _ h => h) (Or.inl ⟨by rfl, ?_⟩) (by assumption) ?_
              · intro w9 hSw
                (try dsimp only at hSw)
                go_simp
              (try simp only [Act.put, List.setIfInBounds_toArray, List.set_cons_zero, List.set_cons_succ])
              refine wpAnyH_take (i := 6) (oi := { dst := some 28, op := Op.fieldAddr 28 (Operand.tmp 8) 2, type := 0, pos := "judge.go:114", after := #[{ on := 5, ground := Ground.guard }], guard := some (5, true) }) (v := .pointer (some ⟨D, 2, none⟩)) rfl (by kernel_rfl) (by kernel_rfl) (by kernel_rfl) (fun _ _ _ h => h) (Or.inl ⟨by rfl, ?_⟩) (by assumption) ?_
              · intro w9 hSw
                (try dsimp only at hSw)
                go_simp
              (try simp only [Act.put, List.setIfInBounds_toArray, List.set_cons_zero, List.set_cons_succ])
              refine wpAnyH_take (i := 7) (oi := { dst := some 29, op := Op.load 4 (Operand.tmp 28), type := 4, pos := "judge.go:114", after := #[{ on := 6, ground := Ground.data }, { on := 5, ground := Ground.guard }], guard := some (5, true) }) (v := .bool false) rfl (by kernel_rfl) (by kernel_rfl) (by kernel_rfl) (fun _ _ _ h => h) (Or.inl ⟨by rfl, ?_⟩) (by assumption) ?_
              · intro w9 hSw
                (try dsimp only at hSw)
                go_simp
              (try simp only [Act.put, List.setIfInBounds_toArray, List.set_cons_zero, List.set_cons_succ])
              refine wpAnyH_take (i := 8) (oi := { dst := some 30, op := Op.unOp UnOp.not 4 (Operand.tmp 29), type := 4, pos := "judge.go:114", after := #[{ on := 7, ground := Ground.data }, { on := 5, ground := Ground.guard }], guard := some (5, true) }) (v := .bool true) rfl (by kernel_rfl) (by kernel_rfl) (by kernel_rfl) (fun _ _ _ h => h) (Or.inl ⟨by rfl, ?_⟩) (by assumption) ?_
              · intro w9 hSw
                (try dsimp only at hSw)
                go_simp
              (try simp only [Act.put, List.setIfInBounds_toArray, List.set_cons_zero, List.set_cons_succ])
              refine wpAnyH_take (i := 9) (oi := { dst := some 31, op := Op.pick (Operand.tmp 27) (Operand.tmp 30) (Operand.const (Value.bool false)), type := 4, pos := "judge.go:114", after := #[{ on := 5, ground := Ground.data }, { on := 8, ground := Ground.data }], guard := none }) (v := .bool true) rfl (by kernel_rfl) (by kernel_rfl) (by kernel_rfl) (fun _ _ _ h => h) (Or.inl ⟨by rfl, ?_⟩) (by assumption) ?_
              · intro w9 hSw
                (try dsimp only at hSw)
                go_simp
              (try simp only [Act.put, List.setIfInBounds_toArray, List.set_cons_zero, List.set_cons_succ])
              refine wpAnyH_take (i := 10) (oi := { dst := some 32, op := Op.move (Operand.tmp 31), type := 4, pos := "judge.go:114", after := #[{ on := 9, ground := Ground.data }, { on := 5, ground := Ground.chain }], guard := none }) (v := .bool true) rfl (by kernel_rfl) (by kernel_rfl) (by kernel_rfl) (fun _ _ _ h => h) (Or.inl ⟨by rfl, ?_⟩) (by assumption) ?_
              · intro w9 hSw
                (try dsimp only at hSw)
                go_simp
              (try simp only [Act.put, List.setIfInBounds_toArray, List.set_cons_zero, List.set_cons_succ])
              refine wpAnyH_take (i := 11) (oi := { dst := some 33, op := Op.load 28 (Operand.tmp 8), type := 28, pos := "judge.go:114", after := #[{ on := 10, ground := Ground.guard }], guard := some (10, true) }) (v := .agg #[.int .i64 d.client, .int .i64 d.op, .bool false, .string d.key, .slice d.va d.vn d.vc, .int .i64 st, .int .i64 d.frm, .int .i64 d.to, .bool d.opn, .int .i64 d.tx, .int .i64 d.ty]) rfl (by kernel_rfl) (by kernel_rfl) (by kernel_rfl) (fun _ _ _ h => h) (Or.inl ⟨by rfl, ?_⟩) (by assumption) ?_
              · intro w9 hSw
                (try dsimp only at hSw)
                go_simp
              (try simp only [Act.put, List.setIfInBounds_toArray, List.set_cons_zero, List.set_cons_succ])
              refine wpAnyH_ready (rs := [12]) (by kernel_rfl) (by simp) ?_
              refine (AllReadyH.cons (o := { dst := some 34, op := Op.call { callee := Callee.value (Operand.func 6), args := #[Operand.tmp 33], argTypes := #[28] }, type := 3, pos := "judge.go:114", after := #[{ on := 11, ground := Ground.data }, { on := 10, ground := Ground.chain }, { on := 10, ground := Ground.guard }], guard := some (10, true) }) rfl (fun K hK => ?_) AllReadyH.nil)
              go_simp
              refine (RD.out _ kd).mono ?_
              rintro o w5 ⟨rfl, KX⟩
              have K5 : Kept (fun _ => False) wd w5 := Kept.trans kd KX (fun _ _ z => z)
              refine hK.out _ _ ?_ (fun hHeld => ?_)
              · exact SH.out w5 K5
              clear hK K KX
              (try simp only [Act.put, List.setIfInBounds_toArray, List.set_cons_zero, List.set_cons_succ])
              refine wpAnyH_take (i := 13) (oi := { dst := some 35, op := Op.binOp BinOp.eql 3 (Operand.tmp 34) (Operand.const (Value.int IntKind.i64 2)) 3, type := 4, pos := "judge.go:114", after := #[{ on := 12, ground := Ground.data }, { on := 10, ground := Ground.guard }], guard := some (10, true) }) (v := .bool false) rfl (by kernel_rfl) (by kernel_rfl) (by kernel_rfl) (fun _ _ _ h => h) (Or.inl ⟨by rfl, ?_⟩) (by assumption) ?_
              · intro w9 hSw
                (try dsimp only at hSw)
                go_simp
              (try simp only [Act.put, List.setIfInBounds_toArray, List.set_cons_zero, List.set_cons_succ])
              refine wpAnyH_take (i := 14) (oi := { dst := some 36, op := Op.pick (Operand.tmp 32) (Operand.tmp 35) (Operand.const (Value.bool false)), type := 4, pos := "judge.go:114", after := #[{ on := 10, ground := Ground.data }, { on := 13, ground := Ground.data }], guard := none }) (v := .bool false) rfl (by kernel_rfl) (by kernel_rfl) (by kernel_rfl) (fun _ _ _ h => h) (Or.inl ⟨by rfl, ?_⟩) (by assumption) ?_
              · intro w9 hSw
                (try dsimp only at hSw)
                go_simp
              (try simp only [Act.put, List.setIfInBounds_toArray, List.set_cons_zero, List.set_cons_succ])
              refine wpAnyH_take (i := 15) (oi := { dst := some 37, op := Op.move (Operand.tmp 36), type := 4, pos := "judge.go:114", after := #[{ on := 14, ground := Ground.data }, { on := 12, ground := Ground.chain }], guard := none }) (v := .bool false) rfl (by kernel_rfl) (by kernel_rfl) (by kernel_rfl) (fun _ _ _ h => h) (Or.inl ⟨by rfl, ?_⟩) (by assumption) ?_
              · intro w9 hSw
                (try dsimp only at hSw)
                go_simp
              (try simp only [Act.put, List.setIfInBounds_toArray, List.set_cons_zero, List.set_cons_succ])
              refine wpAnyH_take (i := 16) (oi := { dst := some 38, op := Op.fieldAddr 28 (Operand.tmp 8) 5, type := 0, pos := "judge.go:114", after := #[{ on := 15, ground := Ground.guard }], guard := some (15, true) }) (v := undef) rfl (by kernel_rfl) (by kernel_rfl) (by kernel_rfl) (fun _ _ _ h => h) (Or.inr ⟨by rfl, rfl⟩) (by assumption) ?_
              (try simp only [Act.put, List.setIfInBounds_toArray, List.set_cons_zero, List.set_cons_succ])
              refine wpAnyH_take (i := 17) (oi := { dst := some 39, op := Op.load 24 (Operand.tmp 38), type := 24, pos := "judge.go:114", after := #[{ on := 16, ground := Ground.data }, { on := 15, ground := Ground.guard }], guard := some (15, true) }) (v := undef) rfl (by kernel_rfl) (by kernel_rfl) (by kernel_rfl) (fun _ _ _ h => h) (Or.inr ⟨by rfl, rfl⟩) (by assumption) ?_
              (try simp only [Act.put, List.setIfInBounds_toArray, List.set_cons_zero, List.set_cons_succ])
              refine wpAnyH_take (i := 18) (oi := { dst := some 40, op := Op.binOp BinOp.eql 24 (Operand.tmp 39) (Operand.const (Value.int IntKind.i64 0)) 24, type := 4, pos := "judge.go:114", after := #[{ on := 17, ground := Ground.data }, { on := 15, ground := Ground.guard }], guard := some (15, true) }) (v := undef) rfl (by kernel_rfl) (by kernel_rfl) (by kernel_rfl) (fun _ _ _ h => h) (Or.inr ⟨by rfl, rfl⟩) (by assumption) ?_
              (try simp only [Act.put, List.setIfInBounds_toArray, List.set_cons_zero, List.set_cons_succ])
              refine wpAnyH_take (i := 19) (oi := { dst := some 41, op := Op.pick (Operand.tmp 37) (Operand.tmp 40) (Operand.const (Value.bool false)), type := 4, pos := "judge.go:114", after := #[{ on := 15, ground := Ground.data }, { on := 18, ground := Ground.data }], guard := none }) (v := .bool false) rfl (by kernel_rfl) (by kernel_rfl) (by kernel_rfl) (fun _ _ _ h => h) (Or.inl ⟨by rfl, ?_⟩) (by assumption) ?_
              · intro w9 hSw
                (try dsimp only at hSw)
                go_simp
              (try simp only [Act.put, List.setIfInBounds_toArray, List.set_cons_zero, List.set_cons_succ])
              refine wpAnyH_take (i := 20) (oi := { dst := some 42, op := Op.move (Operand.tmp 41), type := 4, pos := "judge.go:114", after := #[{ on := 19, ground := Ground.data }, { on := 15, ground := Ground.chain }], guard := none }) (v := .bool false) rfl (by kernel_rfl) (by kernel_rfl) (by kernel_rfl) (fun _ _ _ h => h) (Or.inl ⟨by rfl, ?_⟩) (by assumption) ?_
              · intro w9 hSw
                (try dsimp only at hSw)
                go_simp
              (try simp only [Act.put, List.setIfInBounds_toArray, List.set_cons_zero, List.set_cons_succ])
              refine wpAnyH_take (i := 21) (oi := { dst := some 43, op := Op.fieldAddr 28 (Operand.tmp 8) 4, type := 0, pos := "judge.go:114", after := #[{ on := 20, ground := Ground.guard }], guard := some (20, true) }) (v := undef) rfl (by kernel_rfl) (by kernel_rfl) (by kernel_rfl) (fun _ _ _ h => h) (Or.inr ⟨by rfl, rfl⟩) (by assumption) ?_
              (try simp only [Act.put, List.setIfInBounds_toArray, List.set_cons_zero, List.set_cons_succ])
              refine wpAnyH_take (i := 22) (oi := { dst := some 44, op := Op.load 23 (Operand.tmp 43), type := 23, pos := "judge.go:114", after := #[{ on := 21, ground := Ground.data }, { on := 20, ground := Ground.guard }], guard := some (20, true) }) (v := undef) rfl (by kernel_rfl) (by kernel_rfl) (by kernel_rfl) (fun _ _ _ h => h) (Or.inr ⟨by rfl, rfl⟩) (by assumption) ?_
              (try simp only [Act.put, List.setIfInBounds_toArray, List.set_cons_zero, List.set_cons_succ])
              refine wpAnyH_take (i := 23) (oi := { dst := some 45, op := Op.move (Operand.tmp 0), type := 22, pos := "judge.go:114", after := #[{ on := 20, ground := Ground.guard }], guard := some (20, true) }) (v := undef) rfl (by kernel_rfl) (by kernel_rfl) (by kernel_rfl) (fun _ _ _ h => h) (Or.inr ⟨by rfl, rfl⟩) (by assumption) ?_
              (try simp only [Act.put, List.setIfInBounds_toArray, List.set_cons_zero, List.set_cons_succ])
              refine wpAnyH_take (i := 24) (oi := { dst := some 46, op := Op.move (Operand.tmp 2), type := 3, pos := "judge.go:114", after := #[{ on := 20, ground := Ground.guard }], guard := some (20, true) }) (v := undef) rfl (by kernel_rfl) (by kernel_rfl) (by kernel_rfl) (fun _ _ _ h => h) (Or.inr ⟨by rfl, rfl⟩) (by assumption) ?_
              (try simp only [Act.put, List.setIfInBounds_toArray, List.set_cons_zero, List.set_cons_succ])
              refine wpAnyH_take (i := 25) (oi := { dst := some 47, op := Op.indexAddr 22 (Operand.tmp 45) (Operand.tmp 46), type := 0, pos := "judge.go:114", after := #[{ on := 23, ground := Ground.data }, { on := 24, ground := Ground.data }, { on := 20, ground := Ground.guard }], guard := some (20, true) }) (v := undef) rfl (by kernel_rfl) (by kernel_rfl) (by kernel_rfl) (fun _ _ _ h => h) (Or.inr ⟨by rfl, rfl⟩) (by assumption) ?_
              (try simp only [Act.put, List.setIfInBounds_toArray, List.set_cons_zero, List.set_cons_succ])
              refine wpAnyH_take (i := 26) (oi := { dst := some 48, op := Op.fieldAddr 28 (Operand.tmp 47) 4, type := 0, pos := "judge.go:114", after := #[{ on := 25, ground := Ground.data }, { on := 20, ground := Ground.guard }], guard := some (20, true) }) (v := undef) rfl (by kernel_rfl) (by kernel_rfl) (by kernel_rfl) (fun _ _ _ h => h) (Or.inr ⟨by rfl, rfl⟩) (by assumption) ?_
              (try simp only [Act.put, List.setIfInBounds_toArray, List.set_cons_zero, List.set_cons_succ])
              refine wpAnyH_take (i := 27) (oi := { dst := some 49, op := Op.load 23 (Operand.tmp 48), type := 23, pos := "judge.go:114", after := #[{ on := 26, ground := Ground.data }, { on := 20, ground := Ground.guard }], guard := some (20, true) }) (v := undef) rfl (by kernel_rfl) (by kernel_rfl) (by kernel_rfl) (fun _ _ _ h => h) (Or.inr ⟨by rfl, rfl⟩) (by assumption) ?_
              (try simp only [Act.put, List.setIfInBounds_toArray, List.set_cons_zero, List.set_cons_succ])
              refine wpAnyH_take (i := 28) (oi := { dst := some 50, op := Op.call { callee := Callee.value (Operand.func 25), args := #[Operand.tmp 44, Operand.tmp 49], argTypes := #[23, 23] }, type := 4, pos := "judge.go:114", after := #[{ on := 22, ground := Ground.data }, { on := 27, ground := Ground.data }, { on := 20, ground := Ground.chain }, { on := 20, ground := Ground.guard }], guard := some (20, true) }) (v := undef) rfl (by kernel_rfl) (by kernel_rfl) (by kernel_rfl) (fun _ _ _ h => h) (Or.inr ⟨by rfl, rfl⟩) (by assumption) ?_
              (try simp only [Act.put, List.setIfInBounds_toArray, List.set_cons_zero, List.set_cons_succ])
              refine wpAnyH_take (i := 29) (oi := { dst := some 51, op := Op.pick (Operand.tmp 42) (Operand.tmp 50) (Operand.const (Value.bool false)), type := 4, pos := "judge.go:114", after := #[{ on := 20, ground := Ground.data }, { on := 28, ground := Ground.data }], guard := none }) (v := .bool false) rfl (by kernel_rfl) (by kernel_rfl) (by kernel_rfl) (fun _ _ _ h => h) (Or.inl ⟨by rfl, ?_⟩) (by assumption) ?_
              · intro w9 hSw
                (try dsimp only at hSw)
                go_simp
              (try simp only [Act.put, List.setIfInBounds_toArray, List.set_cons_zero, List.set_cons_succ])
              refine wpAnyH_done (by kernel_rfl) ?_ _
              go_wp2_with fail
              go_roundw
              case rel => exact ⟨j + 1, by go_num, by omega, T.out.2.1.trans K5 (fun _ _ z => z), NX.out (fun z => by refine p2 (HX.out.2.2.2.1.trans (pn_two.2 ?_)); unfold Cl.must Cl.open_; rw [z.1, show d.cl.put = false from z.2.1]; rfl)⟩
              case measure => simp [intOf] <;> omega
      · have j1 : ¬ (j : Int) < (n : Int) := by omega
        go_wp2_with fail
        go_ret
        refine RetB.mk false rfl ⟨⟨fun z => (by cases z), fun z => ?_⟩, L.out.1⟩
        rcases z with z | ⟨g', d, hg', h1, h2, h3, h4⟩
        · rw [OP.out] at z; cases z
        · rw [List.getElem?_map] at hg'
          cases q : ms[g']? with
          | none => rw [q] at hg'; cases hg'
          | some x =>
            rw [q] at hg'
            have e : x.cl = d := by simpa using hg'
            subst e
            have hl := (List.getElem?_eq_some_iff.1 q).1
            rw [H.out.1.len] at hl
            exact absurd ⟨h1, h2, h3, h4⟩ (L.out.2 g' x (by omega) q)
  · have p1' : (pi_ == 1) = false := by simp [p1]
    go_wp2_with fail
    go_ret
    refine RetB.mk true rfl ⟨⟨fun _ => .inl ?_, fun _ => rfl⟩, K1.out⟩
    cases q : mi'.cl.open_
    · rfl
    · exact absurd (HPI.out.trans (pn_one.2 q)) p1
end Go.Proofs.Ytginpoofeliimab
