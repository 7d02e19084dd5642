import Derived.Test.YtojepeefphbekabGreatTab
import Derived.Test.YtojepeefphbekabGreatEnts
namespace Go.Proofs.YtojepeefphbekabGreat
open Go.RowKit

/-- New. -/
theorem new_bad (d : Int) (w : World) (h : d < 0 ∨ 4611686018427387903 < d) : Calls Tryz.prog 4 #[.int .i64 d] w fun o w' => o = .returned (.tuple #[.pointer none, .int .i64 1]) ∧ w' = w := by
  go_enter Tryz.func4, Tryz.ntmps4
  by_cases h0 : d < 0
  · go_wp2_with fail
    go_ret2
    exact ⟨rfl, rfl⟩
  · have h1 : 4611686018427387903 < d := by omega
    go_wp2_with fail
    go_ret2
    exact ⟨rfl, rfl⟩
theorem new_good (d : Int) (w : World) (h0 : 0 ≤ d) (h1 : d ≤ 4611686018427387903) : Calls Tryz.prog 4 #[.int .i64 d] w fun o w' => ∃ tb rb, o = .returned (.tuple #[.pointer (some ⟨tb, 0, none⟩), .int .i64 0]) ∧ IsT w' 0 ⟨tb, rb, d, fun _ => none⟩ ∧ Kept (fun _ => False) w w' ∧ w.heap.size ≤ tb ∧ w.heap.size ≤ rb := by
  have mk := run_makeMap (P := Tryz.prog) 52 w
  go_enter Tryz.func4, Tryz.ntmps4
  go_wp2_with fail
  go_ret2
  refine ⟨w.heap.size + 1, w.heap.size, rfl, ⟨two1 _ _ _, (TM.made w).kept (k0_alloc _ _) (fun z => z), fun _ _ e => (by cases e), fun _ _ e => (by cases e), fun _ _ _ _ e => (by cases e), fun _ _ e => (by cases e)⟩, ((Kept.refl _ w).alloc _).alloc _, by omega, Nat.le_refl _⟩
set_option maxRecDepth 100000 in
set_option maxHeartbeats 2000000 in
theorem tTop (nn : Nat) (t : TK) (key : ByteArray) (w : World) (h : IsT w nn t) (hk : key.size ≤ maxLen) : Calls Tryz.prog 13 #[.pointer (some ⟨t.tb, 0, none⟩), .string key] w fun o w' => ∃ x y : Int, o = .returned (.agg #[.int .i64 x, .int .i64 y]) ∧ floorT (TS t key) 0 = (x, y) ∧ Kept (fun _ => False) w w' := by
  obtain ⟨tb, rb, delta, R⟩ := t
  obtain ⟨W, hW⟩ : ∃ W, W = w.alloc (.cells #[.int .i64 0, .int .i64 0] 31) := ⟨_, rfl⟩
  have KZ : Kept (fun _ => False) w W := by rw [hW]; exact k0_alloc _ _
  obtain ⟨bb, pq, lk, lo, hs⟩ := (h.k0 KZ).at key hk
  obtain ⟨pp, hpp⟩ : ∃ pp, pv pq = .pointer pp := ⟨_, rfl⟩
  rw [hpp] at lk
  have H : Hid (IsT W nn ⟨tb, rb, delta, R⟩ ∧ TagAt W w.heap.size 0 0 ∧ Kept (fun _ => False) w W ∧ HasS W pq (TS ⟨tb, rb, delta, R⟩ key) ∧ Value.pointer pp = pv pq) := ⟨h.k0 KZ, by rw [hW]; exact TagAt.new w 0 0, KZ, hs, hpp.symm⟩
  have EW : Hid (W = w.alloc (.cells #[.int .i64 0, .int .i64 0] 31)) := hW
  have lk : (Instr.lookup 52 (.map (some rb)) (.string key) false).run Tryz.prog W = .ok (.agg #[.map bb, .pointer pp]) W := lk
  have e1 : W.cell? ⟨tb, 1, none⟩ = some (.map (some rb)) := cell_blk H.out.1.blk 1 rfl
  clear h KZ hW hk hs lo hpp
  dsimp only
  go_enter Tryz.func13, Tryz.ntmps13
  go_upto_region 1 with fail
  rw [← EW.out]
  go_wp2_with fail
  refine (rTop (.map bb) (.pointer pp) pq H.out.2.2.2.2 (TS ⟨tb, rb, delta, R⟩ key) W ⟨bb, rfl⟩ H.out.2.2.2.1).mono ?_
  rintro o w2 ⟨x, y, rfl, hf, K2⟩
  have H2 : Hid (TagAt w2 w.heap.size 0 0 ∧ Kept (fun _ => False) w w2 ∧ floorT (TS ⟨tb, rb, delta, R⟩ key) 0 = (x, y)) := ⟨⟨K2.get H.out.2.1.blk (fun z => z)⟩, H.out.2.2.1.and0 K2, hf⟩
  obtain ⟨t0, t1, f0, f1⟩ := H2.out.1.facts
  clear hf K2 e1 lk
  go_wp2_with fail
  exact bodyPost_ret (results_tag rfl _ _ _ x y rfl ((H2.out.1.set0 _).set1 _)) rfl ⟨x, y, rfl, H2.out.2.2, (H2.out.2.1.setCell (p := ⟨w.heap.size, 0, none⟩) (fun z => by have z : w.heap.size < w.heap.size := z; omega) _).setCell (p := ⟨w.heap.size, 1, none⟩) (fun z => by have z : w.heap.size < w.heap.size := z; omega) _⟩
set_option maxRecDepth 100000 in
set_option maxHeartbeats 2000000 in
theorem tFloor (nn : Nat) (t : TK) (key : ByteArray) (w : World) (h : IsT w nn t) (hk : key.size ≤ maxLen) : Calls Tryz.prog 15 #[.pointer (some ⟨t.tb, 0, none⟩), .string key] w fun o w' => ∃ x y : Int, o = .returned (.agg #[.int .i64 x, .int .i64 y]) ∧ floorT (TS t key) t.delta = (x, y) ∧ Kept (fun _ => False) w w' := by
  obtain ⟨tb, rb, delta, R⟩ := t
  obtain ⟨W, hW⟩ : ∃ W, W = w.alloc (.cells #[.int .i64 0, .int .i64 0] 31) := ⟨_, rfl⟩
  have KZ : Kept (fun _ => False) w W := by rw [hW]; exact k0_alloc _ _
  obtain ⟨bb, pq, lk, lo, hs⟩ := (h.k0 KZ).at key hk
  obtain ⟨pp, hpp⟩ : ∃ pp, pv pq = .pointer pp := ⟨_, rfl⟩
  rw [hpp] at lk
  have lk : (Instr.lookup 52 (.map (some rb)) (.string key) false).run Tryz.prog W = .ok (.agg #[.map bb, .pointer pp]) W := lk
  have b1 : tb < w.heap.size := block_lt h.blk
  have b2 : rb < w.heap.size := h.rows.lt
  have AT : Hid (∀ V (U : Nat → Prop), Kept U W V → ¬ U rb → (Instr.lookup 52 (.map (some rb)) (.string key) false).run Tryz.prog V = .ok (.agg #[.map bb, .pointer pp]) V) := by
    intro V U K hu
    have e := (h.k0 KZ).rows.look rowsK hk
    have e2 := ((h.k0 KZ).rows.kept K hu).look rowsK hk
    have e3 : RV.val ((TK.rv ⟨tb, rb, delta, R⟩ key).getD RV.zero) = .agg #[.map bb, .pointer pp] := by
      have := e.symm.trans lk
      injection this
    exact e2.trans (by rw [e3])
  have H : Hid (IsT W nn ⟨tb, rb, delta, R⟩ ∧ TagAt W w.heap.size 0 0 ∧ Kept (fun _ => False) w W ∧ HasS W pq (TS ⟨tb, rb, delta, R⟩ key) ∧ Value.pointer pp = pv pq ∧ tb < w.heap.size ∧ rb < w.heap.size) := ⟨h.k0 KZ, by rw [hW]; exact TagAt.new w 0 0, KZ, hs, hpp.symm, b1, b2⟩
  have EW : Hid (W = w.alloc (.cells #[.int .i64 0, .int .i64 0] 31)) := hW
  have e0 : W.cell? ⟨tb, 0, none⟩ = some (.int .i64 delta) := cell_blk H.out.1.blk 0 rfl
  have e1 : W.cell? ⟨tb, 1, none⟩ = some (.map (some rb)) := cell_blk H.out.1.blk 1 rfl
  have ld : (Instr.lookup 52 (.map (some rb)) (.string key) false).run Tryz.prog W.drew = .ok (.agg #[.map bb, .pointer pp]) W.drew := AT.out _ _ ((Kept.refl (fun _ => False) W).drew) (fun z => z)
  clear h KZ hW hk hs lo hpp b1 b2 lk
  dsimp only
  go_enter Tryz.func15, Tryz.ntmps15
  go_upto_region 1 with fail
  rw [← EW.out]
  go_upto_region 3 with fail
  go_region_held3 (fun w' => w'.cell? ⟨tb, 0, none⟩ = some (.int .i64 delta) ∧ w'.cell? ⟨tb, 1, none⟩ = some (.map (some rb)) ∧ (Instr.lookup 52 (.map (some rb)) (.string key) false).run Tryz.prog w' = .ok (.agg #[.map bb, .pointer pp]) w') (first | go_keep | exact SK.out)
    (first
      | (go_at_call 33; refine (rFloor (.map bb) (.pointer pp) pq H.out.2.2.2.2.1 (TS ⟨tb, rb, delta, R⟩ key) delta W.drew ⟨bb, rfl⟩ (H.out.2.2.2.1.k0 ((Kept.refl _ _).drew))).mono ?_; rintro o w2 ⟨x, y, rfl, hf, K2⟩
         have K23 : Kept (fun _ => False) W w2 := ((Kept.refl _ _).drew).and0 K2
         have H2 : Hid (TagAt w2 w.heap.size 0 0 ∧ Kept (fun _ => False) w w2 ∧ floorT (TS ⟨tb, rb, delta, R⟩ key) delta = (x, y)) := ⟨⟨K23.get H.out.2.1.blk (fun z => z)⟩, H.out.2.2.1.and0 K23, hf⟩
         have KS : Kept (fun k => k = w.heap.size) W ((w2.setCell ⟨w.heap.size, 0, none⟩ (.int .i64 x)).setCell ⟨w.heap.size, 1, none⟩ (.int .i64 y)) := ((K23.mono (S' := fun k => k = w.heap.size) (fun _ _ z => z.elim)).setCell (p := ⟨w.heap.size, 0, none⟩) (fun _ => rfl) _).setCell (p := ⟨w.heap.size, 1, none⟩) (fun _ => rfl) _
         have SK : Hid (((w2.setCell ⟨w.heap.size, 0, none⟩ (.int .i64 x)).setCell ⟨w.heap.size, 1, none⟩ (.int .i64 y)).cell? ⟨tb, 0, none⟩ = some (.int .i64 delta) ∧ ((w2.setCell ⟨w.heap.size, 0, none⟩ (.int .i64 x)).setCell ⟨w.heap.size, 1, none⟩ (.int .i64 y)).cell? ⟨tb, 1, none⟩ = some (.map (some rb)) ∧ (Instr.lookup 52 (.map (some rb)) (.string key) false).run Tryz.prog ((w2.setCell ⟨w.heap.size, 0, none⟩ (.int .i64 x)).setCell ⟨w.heap.size, 1, none⟩ (.int .i64 y)) = .ok (.agg #[.map bb, .pointer pp]) ((w2.setCell ⟨w.heap.size, 0, none⟩ (.int .i64 x)).setCell ⟨w.heap.size, 1, none⟩ (.int .i64 y))) := ⟨KS.cell e0 (by have := H.out.2.2.2.2.2.1; show ¬ tb = w.heap.size; omega), KS.cell e1 (by have := H.out.2.2.2.2.2.1; show ¬ tb = w.heap.size; omega), AT.out _ _ KS (by have := H.out.2.2.2.2.2.2; show ¬ rb = w.heap.size; omega)⟩
         have q0 : w2.cell? ⟨tb, 0, none⟩ = some (.int .i64 delta) := K23.cell e0 (fun z => z)
         have q1 : w2.cell? ⟨tb, 1, none⟩ = some (.map (some rb)) := K23.cell e1 (fun z => z)
         have q2 := AT.out _ _ K23 (fun z => z)
         obtain ⟨t0, t1, f0, f1⟩ := H2.out.1.facts
         clear hf K2 K23 KS)
      | fail)
  go_wp2_with fail
  exact bodyPost_ret (results_tag rfl _ _ _ x y rfl ((H2.out.1.set0 _).set1 _)) rfl ⟨x, y, rfl, H2.out.2.2, (H2.out.2.1.setCell (p := ⟨w.heap.size, 0, none⟩) (fun z => by have z : w.heap.size < w.heap.size := z; omega) _).setCell (p := ⟨w.heap.size, 1, none⟩) (fun z => by have z : w.heap.size < w.heap.size := z; omega) _⟩
end Go.Proofs.YtojepeefphbekabGreat

namespace Go.Proofs.YtojepeefphbekabGreat
open Go.RowKit 

set_option maxRecDepth 100000 in
set_option maxHeartbeats 2000000 in
theorem entriesN (pp : Option Addr) (w : World) : Calls Tryz.prog 34 #[.agg #[.map none, .pointer pp]] w fun o w' => ∃ (p : Option Addr) (cp : Nat), o = .returned (.slice p 0 cp) ∧ w'.ownsRow w.heap.size 34 5 (.slice p 0 cp) 0 (ecells []) ∧ Kept (fun _ => False) w w' := by
  obtain ⟨W, hW⟩ : ∃ W, W = w.alloc (.cells #[.map none, .pointer pp] 60) := ⟨_, rfl⟩
  have KZ : Kept (fun _ => False) w W := by rw [hW]; exact k0_alloc _ _
  have bW : W.heap[w.heap.size]? = some (.cells #[.map none, .pointer pp] 60 (0, 0)) := by rw [hW]; exact heap_alloc_new _ _
  have ln : ∀ ty, (Builtin.len_ #[57] ty #[.map none]).run Tryz.prog W = .ok (.int .i64 0) W := fun ty => Maps.len_nil Tryz.underlying57 ty
  obtain ⟨i0, hi, hz0, hz1, hz2⟩ := info_parts Tryz.info34c
  obtain ⟨w3, mk, ow, gr⟩ := run_make_own (P := Tryz.prog) W w.heap.size 48 34 i0 _ 5 Tryz.underlying48 hi hz0 hz1 .i64 .i64 0 (by omega) (by unfold maxLen; omega) KZ.size
  have K3 : Kept (fun _ => False) W w3 := (Kept.refl _ W).grown gr (fun k _ z => by cases z)
  obtain ⟨g0, hg0⟩ : ∃ g0, g0 = W.heap.size := ⟨_, rfl⟩
  rw [← hg0] at mk ow
  have mk : (Instr.makeSlice 48 (.int .i64 0) (.int .i64 0)).run Tryz.prog W = .ok (.slice (some ⟨g0, 0, none⟩) 0 0) w3 := mk
  have rn := run_range_nilMap (P := Tryz.prog) w3 57 31 87 Tryz.underlying57
  have nx : ∀ ty, (Instr.next (.pointer (some ⟨w3.heap.size, 0, none⟩)) false ty).run Tryz.prog (w3.alloc (.mapIter none 0 #[] 0)) = .ok (.tuple #[.bool false]) (w3.alloc (.mapIter none 0 #[] 0)) := fun ty => run_next_nilMap w3 ty 0 0 #[]
  have H : Hid (w3.ownsRow w.heap.size 34 5 (.slice (some ⟨g0, 0, none⟩) 0 0) 0 [] ∧ Kept (fun _ => False) w w3 ∧ w3.heap[w.heap.size]? = some (.cells #[.map none, .pointer pp] 60 (0, 0))) := ⟨ow, KZ.and0 K3, K3.get bW (fun z => z)⟩
  have EW : Hid (W = w.alloc (.cells #[.map none, .pointer pp] 60)) := hW
  have c0 := cell_blk bW 0 (v := .map none) rfl
  have d0 := cell_blk H.out.2.2 0 (v := .map none) rfl
  clear KZ bW hi hz0 hz1 hz2 ow gr K3 hg0 hW
  go_enter Tryz.func34, Tryz.ntmps34
  go_upto_region 1 with fail
  rw [← EW.out]
  go_wp2_with fail
  refine wp_loop_rounds 1 ?_
  rw [rounds_succ]
  go_wp2_with fail
  refine (sortE g0 0 0 w.heap.size [] _ ((k0_alloc w3 _).owns H.out.1 (fun _ _ z => z)) (by omega)).mono ?_
  rintro o w8 ⟨rfl, L', P, _, ow', K8⟩
  have F : Hid (w8.ownsRow w.heap.size 34 5 (.slice (some ⟨g0, 0, none⟩) 0 0) 0 (ecells []) ∧ Kept (fun _ => False) w w8) := by
    have e : L' = [] := List.Perm.eq_nil P
    rw [e] at ow'
    refine ⟨ow', (H.out.2.1.alloc _).trans K8 (fun j hj z => ?_)⟩
    have z : j = g0 := z
    have := (own_lt H.out.1 g0 rfl).1
    omega
  clear P ow' K8
  go_wp2_with fail
  go_ret
  exact ⟨some ⟨g0, 0, none⟩, 0, rfl, F.out.1, F.out.2⟩
set_option maxRecDepth 100000 in
set_option maxHeartbeats 2000000 in
theorem tEntries (nn : Nat) (t : TK) (key : ByteArray) (dat : Int × Int → List Nat) (w : World) (h : IsT w nn t) (hk : key.size ≤ maxLen) (hd : ∀ r, t.R key = some r → DataAt w r.M dat) (hn : nn ≤ 4398046511104) : Calls Tryz.prog 18 #[.pointer (some ⟨t.tb, 0, none⟩), .string key] w fun o w' => ∃ (p : Option Addr) (cp : Nat) (L : List ((Int × Int) × Bool × Bool × Option Addr × Nat × Nat)), o = .returned (.slice p L.length cp) ∧ GE (TMp t key) (fun _ => False) L ∧ (L.Pairwise fun x y => ¬ tc y.1 x.1 < 0) ∧ w'.ownsRow w.heap.size 34 5 (.slice p L.length cp) L.length (ecells L) ∧ Kept (fun _ => False) w w' ∧ EOK w' L dat := by
  obtain ⟨tb, rb, delta, R⟩ := t
  have lk := h.rows.look rowsK hk
  have e1 : w.cell? ⟨tb, 1, none⟩ = some (.map (some rb)) := cell_blk h.blk 1 rfl
  have HR : Hid (∀ r, R key = some r → IsRow w nn r ∧ DataAt w r.M dat ∧ nn ≤ 4398046511104) := fun r hr => ⟨h.row key r hr, hd r hr, hn⟩
  dsimp only at lk ⊢
  cases hr : R key with
  | none =>
    have e2 : TMp ⟨tb, rb, delta, R⟩ key = fun _ => none := by
      unfold TMp
      dsimp only
      rw [hr]
      rfl
    have e3 : RV.val ((TK.rv ⟨tb, rb, delta, R⟩ key).getD RV.zero) = .agg #[.map none, .pointer none] := by
      unfold TK.rv
      dsimp only
      rw [hr]
      rfl
    rw [e3] at lk
    rw [e2]
    clear h hk hd hn e2 e3 hr HR
    go_enter Tryz.func18, Tryz.ntmps18
    go_wp2_with fail
    refine (entriesN none w).mono ?_
    rintro o w2 ⟨p, cp, rfl, ow, K2⟩
    have F : Hid (w2.ownsRow w.heap.size 34 5 (.slice p 0 cp) 0 (ecells []) ∧ Kept (fun _ => False) w w2) := ⟨ow, K2⟩
    clear ow K2
    go_wp2_with fail
    go_ret
    exact ⟨p, cp, [], rfl, ⟨fun t k hm => (by cases hm), fun e he => (by cases he), by simp⟩, List.Pairwise.nil, F.out.1, F.out.2, fun e he => (by cases he)⟩
  | some r =>
    have e2 : TMp ⟨tb, rb, delta, R⟩ key = r.M := by
      unfold TMp
      dsimp only
      rw [hr]
      rfl
    have e3 : RV.val ((TK.rv ⟨tb, rb, delta, R⟩ key).getD RV.zero) = .agg #[.map (some r.mb), .pointer (some ⟨r.sb, 0, none⟩)] := by
      unfold TK.rv
      dsimp only
      rw [hr]
      rfl
    rw [e3] at lk
    rw [e2]
    obtain ⟨i1, i2, i3⟩ := HR.out r hr
    have HI : Hid (IsRow w nn r ∧ DataAt w r.M dat ∧ nn ≤ 4398046511104) := ⟨i1, i2, i3⟩
    clear h hk hd hn e2 e3 hr HR i1 i2 i3
    go_enter Tryz.func18, Tryz.ntmps18
    go_wp2_with fail
    refine (entriesB nn r dat w HI.out.1 HI.out.2.1 HI.out.2.2).mono ?_
    rintro o w2 ⟨p, cp, L, rfl, ge, srt, ow, K2, eo⟩
    have F : Hid (GE r.M (fun _ => False) L ∧ (L.Pairwise fun x y => ¬ tc y.1 x.1 < 0) ∧ w2.ownsRow w.heap.size 34 5 (.slice p L.length cp) L.length (ecells L) ∧ Kept (fun _ => False) w w2 ∧ EOK w2 L dat) := ⟨ge, srt, ow, K2, eo⟩
    clear ge srt ow K2 eo
    go_wp2_with fail
    go_ret
    exact ⟨p, cp, L, rfl, F.out.1, F.out.2.1, F.out.2.2.1, F.out.2.2.2.1, F.out.2.2.2.2⟩
end Go.Proofs.YtojepeefphbekabGreat

namespace Go.Proofs.YtojepeefphbekabGreat
open Go.RowKit

/-- How many have a fragment. -/
def hasN (L : List ((Int × Int) × Bool × Bool × Option Addr × Nat × Nat)) : Nat := (L.filter fun e => e.2.2.1).length
theorem hasN_snoc (L : List ((Int × Int) × Bool × Bool × Option Addr × Nat × Nat)) (e : (Int × Int) × Bool × Bool × Option Addr × Nat × Nat) : hasN (L ++ [e]) = hasN L + (if e.2.2.1 = true then 1 else 0) := by
  unfold hasN
  rw [List.filter_append, List.length_append]
  by_cases h : e.2.2.1 = true
  · simp [h]
  · simp [h]
theorem hasN_le (L : List ((Int × Int) × Bool × Bool × Option Addr × Nat × Nat)) : hasN L ≤ L.length := List.length_filter_le _ _
def FI (w : World) (mb rr n cnt0 : Nat) (M : Int × Int → Option Hd) (v : Value) (wr : World) (cnt : Nat) : Prop :=
  ∃ (L : List ((Int × Int) × Bool × Bool × Option Addr × Nat × Nat)) (Lf : Int × Int → Prop), v = .int .i64 (hasN L : Int) ∧ RG 31 tl TFit Hd.val RH wr mb rr n M Lf cnt ∧ GE M Lf L ∧ Kept (fun _ => False) w wr ∧ L.length + cnt ≤ cnt0
end Go.Proofs.YtojepeefphbekabGreat
