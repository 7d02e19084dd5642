import Derived.Test.YtojepeefphbekaaGreatTab
namespace Go.Proofs.YtojepeefphbekaaGreat
open Go.RowKit

/-- New. -/
theorem new_bad (d : Int) (w : World) (h : d < 0 ∨ 4611686018427387903 < d) : Calls Tryz.prog 26 #[.int .i64 d] w fun o w' => o = .returned (.tuple #[.pointer none, .int .i64 1]) ∧ w' = w := by
  go_enter Tryz.func26, Tryz.ntmps26
  by_cases h0 : d < 0
  · go_wp2_with fail
    go_ret2
    exact ⟨rfl, rfl⟩
  · have h1 : 4611686018427387903 < d := by omega
    go_wp2_with fail
    go_ret2
    exact ⟨rfl, rfl⟩
theorem new_good (d : Int) (w : World) (h0 : 0 ≤ d) (h1 : d ≤ 4611686018427387903) : Calls Tryz.prog 26 #[.int .i64 d] w fun o w' => ∃ tb rb, o = .returned (.tuple #[.pointer (some ⟨tb, 0, none⟩), .int .i64 0]) ∧ IsT w' 0 ⟨tb, rb, d, fun _ => none⟩ ∧ Kept (fun _ => False) w w' ∧ w.heap.size ≤ tb ∧ w.heap.size ≤ rb := by
  have mk := run_makeMap (P := Tryz.prog) 83 w
  go_enter Tryz.func26, Tryz.ntmps26
  go_wp2_with fail
  go_ret2
  refine ⟨w.heap.size + 1, w.heap.size, rfl, ⟨two1 _ _ _, (TM.made w).kept (k0_alloc _ _) (fun z => z), fun _ _ e => (by cases e), fun _ _ e => (by cases e), fun _ _ _ _ e => (by cases e), fun _ _ e => (by cases e)⟩, ((Kept.refl _ w).alloc _).alloc _, by omega, Nat.le_refl _⟩
set_option maxRecDepth 100000 in
set_option maxHeartbeats 2000000 in
theorem tTop (nn : Nat) (t : TK) (key : ByteArray) (w : World) (h : IsT w nn t) (hk : key.size ≤ maxLen) : Calls Tryz.prog 23 #[.pointer (some ⟨t.tb, 0, none⟩), .string key] w fun o w' => ∃ x y : Int, o = .returned (.agg #[.int .i64 x, .int .i64 y]) ∧ floorT (TS t key) 0 = (x, y) ∧ Kept (fun _ => False) w w' := by
  obtain ⟨tb, rb, delta, R⟩ := t
  obtain ⟨W, hW⟩ : ∃ W, W = w.alloc (.cells #[.int .i64 0, .int .i64 0] 37) := ⟨_, rfl⟩
  have KZ : Kept (fun _ => False) w W := by rw [hW]; exact k0_alloc _ _
  obtain ⟨bb, pq, lk, lo, hs⟩ := (h.k0 KZ).at key hk
  obtain ⟨pp, hpp⟩ : ∃ pp, pv pq = .pointer pp := ⟨_, rfl⟩
  rw [hpp] at lk
  have H : Hid (IsT W nn ⟨tb, rb, delta, R⟩ ∧ TagAt W w.heap.size 0 0 ∧ Kept (fun _ => False) w W ∧ HasS W pq (TS ⟨tb, rb, delta, R⟩ key) ∧ Value.pointer pp = pv pq) := ⟨h.k0 KZ, by rw [hW]; exact TagAt.new w 0 0, KZ, hs, hpp.symm⟩
  have EW : Hid (W = w.alloc (.cells #[.int .i64 0, .int .i64 0] 37)) := hW
  have lk : (Instr.lookup 83 (.map (some rb)) (.string key) false).run Tryz.prog W = .ok (.agg #[.map bb, .pointer pp]) W := lk
  have e1 : W.cell? ⟨tb, 1, none⟩ = some (.map (some rb)) := cell_blk H.out.1.blk 1 rfl
  clear h KZ hW hk hs lo hpp
  dsimp only
  go_enter Tryz.func23, Tryz.ntmps23
  go_upto_region 1 with fail
  rw [← EW.out]
  go_wp2_with fail
  refine (rTop (.map bb) (.pointer pp) pq H.out.2.2.2.2 (TS ⟨tb, rb, delta, R⟩ key) W ⟨bb, rfl⟩ H.out.2.2.2.1).mono ?_
  rintro o w2 ⟨x, y, rfl, hf, K2⟩
  have H2 : Hid (TagAt w2 w.heap.size 0 0 ∧ Kept (fun _ => False) w w2 ∧ floorT (TS ⟨tb, rb, delta, R⟩ key) 0 = (x, y)) := ⟨⟨K2.get H.out.2.1.blk (fun z => z)⟩, H.out.2.2.1.and0 K2, hf⟩
  obtain ⟨t0, t1, f0, f1⟩ := H2.out.1.facts
  clear hf K2 e1 lk
  go_wp2_with fail
  exact bodyPost_ret (results_tag rfl _ _ _ x y rfl ((H2.out.1.set0 _).set1 _)) rfl ⟨x, y, rfl, H2.out.2.2, (H2.out.2.1.setCell (p := ⟨w.heap.size, 0, none⟩) (fun z => by have z : w.heap.size < w.heap.size := z; omega) _).setCell (p := ⟨w.heap.size, 1, none⟩) (fun z => by have z : w.heap.size < w.heap.size := z; omega) _⟩
set_option maxRecDepth 100000 in
set_option maxHeartbeats 2000000 in
theorem tFloor (nn : Nat) (t : TK) (key : ByteArray) (w : World) (h : IsT w nn t) (hk : key.size ≤ maxLen) : Calls Tryz.prog 24 #[.pointer (some ⟨t.tb, 0, none⟩), .string key] w fun o w' => ∃ x y : Int, o = .returned (.agg #[.int .i64 x, .int .i64 y]) ∧ floorT (TS t key) t.delta = (x, y) ∧ Kept (fun _ => False) w w' := by
  obtain ⟨tb, rb, delta, R⟩ := t
  obtain ⟨W, hW⟩ : ∃ W, W = w.alloc (.cells #[.int .i64 0, .int .i64 0] 37) := ⟨_, rfl⟩
  have KZ : Kept (fun _ => False) w W := by rw [hW]; exact k0_alloc _ _
  obtain ⟨bb, pq, lk, lo, hs⟩ := (h.k0 KZ).at key hk
  obtain ⟨pp, hpp⟩ : ∃ pp, pv pq = .pointer pp := ⟨_, rfl⟩
  rw [hpp] at lk
  have lk : (Instr.lookup 83 (.map (some rb)) (.string key) false).run Tryz.prog W = .ok (.agg #[.map bb, .pointer pp]) W := lk
  have b1 : tb < w.heap.size := block_lt h.blk
  have b2 : rb < w.heap.size := h.rows.lt
  have AT : Hid (∀ V (U : Nat → Prop), Kept U W V → ¬ U rb → (Instr.lookup 83 (.map (some rb)) (.string key) false).run Tryz.prog V = .ok (.agg #[.map bb, .pointer pp]) V) := by
    intro V U K hu
    have e := (h.k0 KZ).rows.look rowsK hk
    have e2 := ((h.k0 KZ).rows.kept K hu).look rowsK hk
    have e3 : RV.val ((TK.rv ⟨tb, rb, delta, R⟩ key).getD RV.zero) = .agg #[.map bb, .pointer pp] := by
      have := e.symm.trans lk
      injection this
    exact e2.trans (by rw [e3])
  have H : Hid (IsT W nn ⟨tb, rb, delta, R⟩ ∧ TagAt W w.heap.size 0 0 ∧ Kept (fun _ => False) w W ∧ HasS W pq (TS ⟨tb, rb, delta, R⟩ key) ∧ Value.pointer pp = pv pq ∧ tb < w.heap.size ∧ rb < w.heap.size) := ⟨h.k0 KZ, by rw [hW]; exact TagAt.new w 0 0, KZ, hs, hpp.symm, b1, b2⟩
  have EW : Hid (W = w.alloc (.cells #[.int .i64 0, .int .i64 0] 37)) := hW
  have e0 : W.cell? ⟨tb, 0, none⟩ = some (.int .i64 delta) := cell_blk H.out.1.blk 0 rfl
  have e1 : W.cell? ⟨tb, 1, none⟩ = some (.map (some rb)) := cell_blk H.out.1.blk 1 rfl
  have ld : (Instr.lookup 83 (.map (some rb)) (.string key) false).run Tryz.prog W.drew = .ok (.agg #[.map bb, .pointer pp]) W.drew := AT.out _ _ ((Kept.refl (fun _ => False) W).drew) (fun z => z)
  clear h KZ hW hk hs lo hpp b1 b2 lk
  dsimp only
  go_enter Tryz.func24, Tryz.ntmps24
  go_upto_region 1 with fail
  rw [← EW.out]
  go_upto_region 3 with fail
  go_region_held3 (fun w' => w'.cell? ⟨tb, 0, none⟩ = some (.int .i64 delta) ∧ w'.cell? ⟨tb, 1, none⟩ = some (.map (some rb)) ∧ (Instr.lookup 83 (.map (some rb)) (.string key) false).run Tryz.prog w' = .ok (.agg #[.map bb, .pointer pp]) w') (first | go_keep | exact SK.out)
    (first
      | (go_at_call 43; refine (rFloor (.map bb) (.pointer pp) pq H.out.2.2.2.2.1 (TS ⟨tb, rb, delta, R⟩ key) delta W.drew ⟨bb, rfl⟩ (H.out.2.2.2.1.k0 ((Kept.refl _ _).drew))).mono ?_; rintro o w2 ⟨x, y, rfl, hf, K2⟩
         have K23 : Kept (fun _ => False) W w2 := ((Kept.refl _ _).drew).and0 K2
         have H2 : Hid (TagAt w2 w.heap.size 0 0 ∧ Kept (fun _ => False) w w2 ∧ floorT (TS ⟨tb, rb, delta, R⟩ key) delta = (x, y)) := ⟨⟨K23.get H.out.2.1.blk (fun z => z)⟩, H.out.2.2.1.and0 K23, hf⟩
         have KS : Kept (fun k => k = w.heap.size) W ((w2.setCell ⟨w.heap.size, 0, none⟩ (.int .i64 x)).setCell ⟨w.heap.size, 1, none⟩ (.int .i64 y)) := ((K23.mono (S' := fun k => k = w.heap.size) (fun _ _ z => z.elim)).setCell (p := ⟨w.heap.size, 0, none⟩) (fun _ => rfl) _).setCell (p := ⟨w.heap.size, 1, none⟩) (fun _ => rfl) _
         have SK : Hid (((w2.setCell ⟨w.heap.size, 0, none⟩ (.int .i64 x)).setCell ⟨w.heap.size, 1, none⟩ (.int .i64 y)).cell? ⟨tb, 0, none⟩ = some (.int .i64 delta) ∧ ((w2.setCell ⟨w.heap.size, 0, none⟩ (.int .i64 x)).setCell ⟨w.heap.size, 1, none⟩ (.int .i64 y)).cell? ⟨tb, 1, none⟩ = some (.map (some rb)) ∧ (Instr.lookup 83 (.map (some rb)) (.string key) false).run Tryz.prog ((w2.setCell ⟨w.heap.size, 0, none⟩ (.int .i64 x)).setCell ⟨w.heap.size, 1, none⟩ (.int .i64 y)) = .ok (.agg #[.map bb, .pointer pp]) ((w2.setCell ⟨w.heap.size, 0, none⟩ (.int .i64 x)).setCell ⟨w.heap.size, 1, none⟩ (.int .i64 y))) := ⟨KS.cell e0 (by have := H.out.2.2.2.2.2.1; show ¬ tb = w.heap.size; omega), KS.cell e1 (by have := H.out.2.2.2.2.2.1; show ¬ tb = w.heap.size; omega), AT.out _ _ KS (by have := H.out.2.2.2.2.2.2; show ¬ rb = w.heap.size; omega)⟩
         have q0 : w2.cell? ⟨tb, 0, none⟩ = some (.int .i64 delta) := K23.cell e0 (fun z => z)
         have q1 : w2.cell? ⟨tb, 1, none⟩ = some (.map (some rb)) := K23.cell e1 (fun z => z)
         have q2 := AT.out _ _ K23 (fun z => z)
         obtain ⟨t0, t1, f0, f1⟩ := H2.out.1.facts
         clear hf K2 K23 KS)
      | fail)
  go_wp2_with fail
  exact bodyPost_ret (results_tag rfl _ _ _ x y rfl ((H2.out.1.set0 _).set1 _)) rfl ⟨x, y, rfl, H2.out.2.2, (H2.out.2.1.setCell (p := ⟨w.heap.size, 0, none⟩) (fun z => by have z : w.heap.size < w.heap.size := z; omega) _).setCell (p := ⟨w.heap.size, 1, none⟩) (fun z => by have z : w.heap.size < w.heap.size := z; omega) _⟩
end Go.Proofs.YtojepeefphbekaaGreat
