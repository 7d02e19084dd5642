import Derived.Test.YtojepeefphbekaaGreatRowDJ
import Derived.Test.YtojepeefphbekaaGreatEnts
namespace Go.Proofs.YtojepeefphbekaaGreat
open Go.RowKit

/-- A table: its block, the block of its rows, how many more are kept, what is held of each key. -/
structure TK where
  tb : Nat
  rb : Nat
  delta : Int
  R : ByteArray → Option RK
def TK.rv (t : TK) (k : ByteArray) : Option RV := (t.R k).map fun r => ⟨some r.mb, some r.sb⟩
def TS (t : TK) (k : ByteArray) : List (Int × Int) := ((t.R k).map RK.S).getD []
def TMp (t : TK) (k : ByteArray) : Int × Int → Option Hd := ((t.R k).map RK.M).getD (fun _ => none)
structure IsT (w : World) (n : Nat) (t : TK) : Prop where
  blk : w.heap[t.tb]? = some (.cells #[.int .i64 t.delta, .map (some t.rb)] 85 (0, 0))
  rows : TM 9 (fun s : ByteArray => Lit.string s.data.toList) (fun s : ByteArray => s.size ≤ maxLen) RV.val RR w t.rb n t.rv
  row : ∀ k r, t.R k = some r → IsRow w n r
  len : ∀ k r, t.R k = some r → (r.len + 1) * 16 ≤ 211106232532992
  apart : ∀ k k' r r', t.R k = some r → t.R k' = some r' → k ≠ k' → ∀ b, r.Uses b → ¬ r'.Uses b
  own : ∀ k r, t.R k = some r → ¬ r.Uses t.rb ∧ ¬ r.Uses t.tb
theorem IsT.k0 {w w' : World} {n : Nat} {t : TK} (h : IsT w n t) (K : Kept (fun _ => False) w w') : IsT w' n t :=
  ⟨K.get h.blk (fun z => z), h.rows.kept K (fun z => z), fun k r hr => (h.row k r hr).k0 K, h.len, h.apart, h.own⟩
/-- What a key's row looks like to who asks. -/
theorem IsT.at {w : World} {n : Nat} {t : TK} (h : IsT w n t) (k : ByteArray) (hk : k.size ≤ maxLen) : ∃ b p, (Instr.lookup 83 (.map (some t.rb)) (.string k) false).run Tryz.prog w = .ok (.agg #[.map b, pv p]) w ∧ Looks w (.map b) (TMp t k) ∧ HasS w p (TS t k) := by
  have e := h.rows.look rowsK hk
  cases hr : t.R k with
  | none =>
    refine ⟨none, none, ?_, .inl ⟨rfl, ?_⟩, .inl ⟨rfl, ?_⟩⟩
    · rw [e]
      unfold TK.rv
      rw [hr]
      rfl
    · unfold TMp
      rw [hr]
      rfl
    · unfold TS
      rw [hr]
      rfl
  | some r =>
    have i := h.row k r hr
    refine ⟨some r.mb, some r.sb, ?_, .inr ⟨r.mb, n, rfl, ?_⟩, .inr ⟨r.sb, r.q, r.len, r.cap, rfl, ?_, ?_⟩⟩
    · rw [e]
      unfold TK.rv
      rw [hr]
      rfl
    · unfold TMp
      rw [hr]
      exact i.tm
    · unfold TS
      rw [hr]
      exact i.st.sv
    · have := h.len k r hr
      omega
/-- What Would says. -/
def wouldF (t : TK) (u : Upd) : Bool := (lackF (TS t u.key) (TMp t u.key) u t.delta).1 || (lackF (TS t u.key) (TMp t u.key) u t.delta).2
def wouldV (t : TK) (u : Upd) : Bool × Int := if u.may = true then (wouldF t u, 0) else (false, 1)
theorem would_nil (u : Upd) (w : World) : Calls Tryz.prog 33 #[.pointer none, u.val] w fun o w' => o = .returned (.tuple #[.bool false, .int .i64 0]) ∧ Kept (fun _ => False) w w' := by
  obtain ⟨kd, key, x, y, fin, has, a, n, c⟩ := u
  unfold Upd.val
  dsimp only
  go_enter Tryz.func33, Tryz.ntmps33
  go_wp2_with fail
  go_ret2
  exact ⟨rfl, k0_alloc _ _⟩
theorem neq71 (p q : Bool) (w : World) : (binOp .neq 113 (.agg #[.bool p, .bool q]) (.agg #[.bool false, .bool false])).run Tryz.prog w = .ok (.bool (p || q)) w := by
  cases p <;> cases q <;> kernel_rfl
set_option maxRecDepth 100000 in
set_option maxHeartbeats 2000000 in
theorem would (nn : Nat) (t : TK) (u : Upd) (w : World) (h : IsT w nn t) (hk : u.key.size ≤ maxLen) (ft : TFit (u.x, u.y)) : Calls Tryz.prog 33 #[.pointer (some ⟨t.tb, 0, none⟩), u.val] w fun o w' => o = .returned (.tuple #[.bool (wouldV t u).1, .int .i64 (wouldV t u).2]) ∧ Kept (fun _ => False) w w' := by
  obtain ⟨tb, rb, delta, R⟩ := t
  obtain ⟨kd, key, x, y, fin, has, a, n, c⟩ := u
  obtain ⟨W, hW⟩ : ∃ W, W = w.alloc (.cells #[.int .i64 kd, .string key, .int .i64 x, .int .i64 y, .bool fin, .bool has, .slice a n c] 44) := ⟨_, rfl⟩
  have KZ : Kept (fun _ => False) w W := by rw [hW]; exact k0_alloc _ _
  have H : Hid (IsT W nn ⟨tb, rb, delta, R⟩ ∧ W.heap[w.heap.size]? = some (.cells #[.int .i64 kd, .string key, .int .i64 x, .int .i64 y, .bool fin, .bool has, .slice a n c] 44 (0, 0)) ∧ Kept (fun _ => False) w W) := by
    refine ⟨h.k0 KZ, ?_, KZ⟩
    rw [hW]
    exact heap_alloc_new _ _
  have EW : Hid (W = w.alloc (.cells #[.int .i64 kd, .string key, .int .i64 x, .int .i64 y, .bool fin, .bool has, .slice a n c] 44)) := hW
  have FT : Hid (TFit (x, y) ∧ key.size ≤ maxLen) := ⟨ft, hk⟩
  have MB : Hid (∀ V, Calls Tryz.prog 56 #[.agg #[.int .i64 kd, .string key, .int .i64 x, .int .i64 y, .bool fin, .bool has, .slice a n c]] V fun z w' => z = .returned (.bool (Upd.may ⟨kd, key, x, y, fin, has, a, n, c⟩)) ∧ Kept (fun _ => False) V w') := fun V => mayBe ⟨kd, key, x, y, fin, has, a, n, c⟩ V
  unfold Upd.val
  dsimp only
  clear h KZ hW ft hk
  go_enter Tryz.func33, Tryz.ntmps33
  go_upto_region 1 with fail
  rw [← EW.out]
  have g0 := cell_blk H.out.2.1 0 (v := .int .i64 kd) rfl
  have g1 := cell_blk H.out.2.1 1 (v := .string key) rfl
  have g2 := cell_blk H.out.2.1 2 (v := .int .i64 x) rfl
  have g3 := cell_blk H.out.2.1 3 (v := .int .i64 y) rfl
  have g4 := cell_blk H.out.2.1 4 (v := .bool fin) rfl
  have g5 := cell_blk H.out.2.1 5 (v := .bool has) rfl
  have g6 := cell_blk H.out.2.1 6 (v := .slice a n c) rfl
  go_wp2_with fail
  refine (MB.out W).mono ?_
  rintro o w2 ⟨rfl, K2⟩
  have H2 : Hid (IsT w2 nn ⟨tb, rb, delta, R⟩ ∧ w2.heap[w.heap.size]? = some (.cells #[.int .i64 kd, .string key, .int .i64 x, .int .i64 y, .bool fin, .bool has, .slice a n c] 44 (0, 0)) ∧ Kept (fun _ => False) w w2) := ⟨H.out.1.k0 K2, K2.get H.out.2.1 (fun z => z), H.out.2.2.and0 K2⟩
  clear K2 g0 g1 g2 g3 g4 g5 g6
  obtain ⟨mb, hmb⟩ : ∃ mb, mb = Upd.may ⟨kd, key, x, y, fin, has, a, n, c⟩ := ⟨_, rfl⟩
  have HM : Hid (mb = Upd.may ⟨kd, key, x, y, fin, has, a, n, c⟩) := hmb
  rw [← hmb]
  clear hmb
  cases mb
  · go_wp2_with fail
    go_ret2
    have e : wouldV ⟨tb, rb, delta, R⟩ ⟨kd, key, x, y, fin, has, a, n, c⟩ = (false, 1) := by unfold wouldV; rw [← HM.out]; rfl
    exact ⟨by rw [e]; rfl, H2.out.2.2⟩
  · go_upto_region 5 with fail
    obtain ⟨bb, pq, lk, lo, hs⟩ := H2.out.1.at key FT.out.2
    obtain ⟨pp, hpp⟩ : ∃ pp, pv pq = .pointer pp := ⟨_, rfl⟩
    rw [hpp] at lk
    have AT : Hid (∀ V, Kept (fun _ => False) w2 V → (Instr.lookup 83 (.map (some rb)) (.string key) false).run Tryz.prog V = .ok (.agg #[.map bb, .pointer pp]) V ∧ Looks V (.map bb) (TMp ⟨tb, rb, delta, R⟩ key) ∧ HasS V pq (TS ⟨tb, rb, delta, R⟩ key)) := by
      intro V K
      have e := H2.out.1.rows.look rowsK FT.out.2
      have e2 := (H2.out.1.rows.kept K (fun z => z)).look rowsK FT.out.2
      have e3 : RV.val ((TK.rv ⟨tb, rb, delta, R⟩ key).getD RV.zero) = .agg #[.map bb, .pointer pp] := by
        have := e.symm.trans lk
        injection this
      refine ⟨?_, lo.k0 K, hs.k0 K⟩
      exact e2.trans (by rw [e3])
    have HP : Hid (Value.pointer pp = pv pq) := hpp.symm
    clear lo hs hpp
    have g0 := cell_blk H2.out.2.1 0 (v := .int .i64 kd) rfl
    have g1 := cell_blk H2.out.2.1 1 (v := .string key) rfl
    have g2 := cell_blk H2.out.2.1 2 (v := .int .i64 x) rfl
    have g3 := cell_blk H2.out.2.1 3 (v := .int .i64 y) rfl
    have g4 := cell_blk H2.out.2.1 4 (v := .bool fin) rfl
    have g5 := cell_blk H2.out.2.1 5 (v := .bool has) rfl
    have g6 := cell_blk H2.out.2.1 6 (v := .slice a n c) rfl
    have e0 : w2.cell? ⟨tb, 0, none⟩ = some (.int .i64 delta) := cell_blk H2.out.1.blk 0 rfl
    have e1 : w2.cell? ⟨tb, 1, none⟩ = some (.map (some rb)) := cell_blk H2.out.1.blk 1 rfl
    have ld : (Instr.lookup 83 (.map (some rb)) (.string key) false).run Tryz.prog w2.drew = .ok (.agg #[.map bb, .pointer pp]) w2.drew := (AT.out _ (Kept.refl _ _).drew).1
    have NQ := neq71
    go_region_held3 (fun w' => w'.cell? ⟨tb, 0, none⟩ = some (.int .i64 delta) ∧ w'.cell? ⟨tb, 1, none⟩ = some (.map (some rb)) ∧ w'.cell? ⟨w.heap.size, 0, none⟩ = some (.int .i64 kd) ∧ w'.cell? ⟨w.heap.size, 1, none⟩ = some (.string key) ∧ w'.cell? ⟨w.heap.size, 2, none⟩ = some (.int .i64 x) ∧ w'.cell? ⟨w.heap.size, 3, none⟩ = some (.int .i64 y) ∧ w'.cell? ⟨w.heap.size, 4, none⟩ = some (.bool fin) ∧ w'.cell? ⟨w.heap.size, 5, none⟩ = some (.bool has) ∧ w'.cell? ⟨w.heap.size, 6, none⟩ = some (.slice a n c) ∧ (Instr.lookup 83 (.map (some rb)) (.string key) false).run Tryz.prog w' = .ok (.agg #[.map bb, .pointer pp]) w') (first | go_keep)
      (first
        | (go_at_call 57; refine (rLacks (.map bb) (.pointer pp) pq HP.out (TS ⟨tb, rb, delta, R⟩ key) (TMp ⟨tb, rb, delta, R⟩ key) ⟨kd, key, x, y, fin, has, a, n, c⟩ delta w2.drew ⟨bb, rfl⟩ (AT.out _ (Kept.refl _ _).drew).2.1 (AT.out _ (Kept.refl _ _).drew).2.2 FT.out.1).mono ?_; rintro o w3 ⟨rfl, K3⟩
           have K23 : Kept (fun _ => False) w2 w3 := ((Kept.refl _ _).drew).and0 K3
           have H3 : Hid (IsT w3 nn ⟨tb, rb, delta, R⟩ ∧ w3.heap[w.heap.size]? = some (.cells #[.int .i64 kd, .string key, .int .i64 x, .int .i64 y, .bool fin, .bool has, .slice a n c] 44 (0, 0)) ∧ Kept (fun _ => False) w w3) := ⟨H2.out.1.k0 K23, K23.get H2.out.2.1 (fun z => z), H2.out.2.2.and0 K23⟩
           have lk3 := (AT.out _ K23).1
           have g0 := cell_blk H3.out.2.1 0 (v := .int .i64 kd) rfl
           have g1 := cell_blk H3.out.2.1 1 (v := .string key) rfl
           have g2 := cell_blk H3.out.2.1 2 (v := .int .i64 x) rfl
           have g3 := cell_blk H3.out.2.1 3 (v := .int .i64 y) rfl
           have g4 := cell_blk H3.out.2.1 4 (v := .bool fin) rfl
           have g5 := cell_blk H3.out.2.1 5 (v := .bool has) rfl
           have g6 := cell_blk H3.out.2.1 6 (v := .slice a n c) rfl
           have e0 : w3.cell? ⟨tb, 0, none⟩ = some (.int .i64 delta) := cell_blk H3.out.1.blk 0 rfl
           have e1 : w3.cell? ⟨tb, 1, none⟩ = some (.map (some rb)) := cell_blk H3.out.1.blk 1 rfl
           clear K3 K23)
        | fail)
    go_wp2_with fail
    go_ret2
    have e : wouldV ⟨tb, rb, delta, R⟩ ⟨kd, key, x, y, fin, has, a, n, c⟩ = (wouldF ⟨tb, rb, delta, R⟩ ⟨kd, key, x, y, fin, has, a, n, c⟩, 0) := by unfold wouldV; rw [← HM.out]; rfl
    refine ⟨?_, H3.out.2.2⟩
    rw [e]
    rfl
end Go.Proofs.YtojepeefphbekaaGreat

namespace Go.Proofs.YtojepeefphbekaaGreat
open Go.RowKit

/-- New. -/
theorem new_bad (d : Int) (w : World) (h : d < 0 ∨ 4611686018427387903 < d) : Calls Tryz.prog 26 #[.int .i64 d] w fun o w' => o = .returned (.tuple #[.pointer none, .int .i64 1]) ∧ w' = w := by
  go_enter Tryz.func26, Tryz.ntmps26
  by_cases h0 : d < 0
  · go_wp2_with fail
    go_ret2
    exact ⟨rfl, rfl⟩
  · have h1 : 4611686018427387903 < d := by omega
    go_wp2_with fail
    go_ret2
    exact ⟨rfl, rfl⟩
theorem new_good (d : Int) (w : World) (h0 : 0 ≤ d) (h1 : d ≤ 4611686018427387903) : Calls Tryz.prog 26 #[.int .i64 d] w fun o w' => ∃ tb rb, o = .returned (.tuple #[.pointer (some ⟨tb, 0, none⟩), .int .i64 0]) ∧ IsT w' 0 ⟨tb, rb, d, fun _ => none⟩ ∧ Kept (fun _ => False) w w' ∧ w.heap.size ≤ tb ∧ w.heap.size ≤ rb := by
  have mk := run_makeMap (P := Tryz.prog) 83 w
  go_enter Tryz.func26, Tryz.ntmps26
  go_wp2_with fail
  go_ret2
  refine ⟨w.heap.size + 1, w.heap.size, rfl, ⟨two1 _ _ _, (TM.made w).kept (k0_alloc _ _) (fun z => z), fun _ _ e => (by cases e), fun _ _ e => (by cases e), fun _ _ _ _ e => (by cases e), fun _ _ e => (by cases e)⟩, ((Kept.refl _ w).alloc _).alloc _, by omega, Nat.le_refl _⟩
set_option maxRecDepth 100000 in
set_option maxHeartbeats 2000000 in
theorem tTop (nn : Nat) (t : TK) (key : ByteArray) (w : World) (h : IsT w nn t) (hk : key.size ≤ maxLen) : Calls Tryz.prog 23 #[.pointer (some ⟨t.tb, 0, none⟩), .string key] w fun o w' => ∃ x y : Int, o = .returned (.agg #[.int .i64 x, .int .i64 y]) ∧ floorT (TS t key) 0 = (x, y) ∧ Kept (fun _ => False) w w' := by
  obtain ⟨tb, rb, delta, R⟩ := t
  obtain ⟨W, hW⟩ : ∃ W, W = w.alloc (.cells #[.int .i64 0, .int .i64 0] 37) := ⟨_, rfl⟩
  have KZ : Kept (fun _ => False) w W := by rw [hW]; exact k0_alloc _ _
  obtain ⟨bb, pq, lk, lo, hs⟩ := (h.k0 KZ).at key hk
  obtain ⟨pp, hpp⟩ : ∃ pp, pv pq = .pointer pp := ⟨_, rfl⟩
  rw [hpp] at lk
  have H : Hid (IsT W nn ⟨tb, rb, delta, R⟩ ∧ TagAt W w.heap.size 0 0 ∧ Kept (fun _ => False) w W ∧ HasS W pq (TS ⟨tb, rb, delta, R⟩ key) ∧ Value.pointer pp = pv pq) := ⟨h.k0 KZ, by rw [hW]; exact TagAt.new w 0 0, KZ, hs, hpp.symm⟩
  have EW : Hid (W = w.alloc (.cells #[.int .i64 0, .int .i64 0] 37)) := hW
  have lk : (Instr.lookup 83 (.map (some rb)) (.string key) false).run Tryz.prog W = .ok (.agg #[.map bb, .pointer pp]) W := lk
  have e1 : W.cell? ⟨tb, 1, none⟩ = some (.map (some rb)) := cell_blk H.out.1.blk 1 rfl
  clear h KZ hW hk hs lo hpp
  dsimp only
  go_enter Tryz.func23, Tryz.ntmps23
  go_upto_region 1 with fail
  rw [← EW.out]
  go_wp2_with fail
  refine (rTop (.map bb) (.pointer pp) pq H.out.2.2.2.2 (TS ⟨tb, rb, delta, R⟩ key) W ⟨bb, rfl⟩ H.out.2.2.2.1).mono ?_
  rintro o w2 ⟨x, y, rfl, hf, K2⟩
  have H2 : Hid (TagAt w2 w.heap.size 0 0 ∧ Kept (fun _ => False) w w2 ∧ floorT (TS ⟨tb, rb, delta, R⟩ key) 0 = (x, y)) := ⟨⟨K2.get H.out.2.1.blk (fun z => z)⟩, H.out.2.2.1.and0 K2, hf⟩
  obtain ⟨t0, t1, f0, f1⟩ := H2.out.1.facts
  clear hf K2 e1 lk
  go_wp2_with fail
  exact bodyPost_ret (results_tag rfl _ _ _ x y rfl ((H2.out.1.set0 _).set1 _)) rfl ⟨x, y, rfl, H2.out.2.2, (H2.out.2.1.setCell (p := ⟨w.heap.size, 0, none⟩) (fun z => by have z : w.heap.size < w.heap.size := z; omega) _).setCell (p := ⟨w.heap.size, 1, none⟩) (fun z => by have z : w.heap.size < w.heap.size := z; omega) _⟩
set_option maxRecDepth 100000 in
set_option maxHeartbeats 2000000 in
theorem tFloor (nn : Nat) (t : TK) (key : ByteArray) (w : World) (h : IsT w nn t) (hk : key.size ≤ maxLen) : Calls Tryz.prog 24 #[.pointer (some ⟨t.tb, 0, none⟩), .string key] w fun o w' => ∃ x y : Int, o = .returned (.agg #[.int .i64 x, .int .i64 y]) ∧ floorT (TS t key) t.delta = (x, y) ∧ Kept (fun _ => False) w w' := by
  obtain ⟨tb, rb, delta, R⟩ := t
  obtain ⟨W, hW⟩ : ∃ W, W = w.alloc (.cells #[.int .i64 0, .int .i64 0] 37) := ⟨_, rfl⟩
  have KZ : Kept (fun _ => False) w W := by rw [hW]; exact k0_alloc _ _
  obtain ⟨bb, pq, lk, lo, hs⟩ := (h.k0 KZ).at key hk
  obtain ⟨pp, hpp⟩ : ∃ pp, pv pq = .pointer pp := ⟨_, rfl⟩
  rw [hpp] at lk
  have lk : (Instr.lookup 83 (.map (some rb)) (.string key) false).run Tryz.prog W = .ok (.agg #[.map bb, .pointer pp]) W := lk
  have b1 : tb < w.heap.size := block_lt h.blk
  have b2 : rb < w.heap.size := h.rows.lt
  have AT : Hid (∀ V (U : Nat → Prop), Kept U W V → ¬ U rb → (Instr.lookup 83 (.map (some rb)) (.string key) false).run Tryz.prog V = .ok (.agg #[.map bb, .pointer pp]) V) := by
    intro V U K hu
    have e := (h.k0 KZ).rows.look rowsK hk
    have e2 := ((h.k0 KZ).rows.kept K hu).look rowsK hk
    have e3 : RV.val ((TK.rv ⟨tb, rb, delta, R⟩ key).getD RV.zero) = .agg #[.map bb, .pointer pp] := by
      have := e.symm.trans lk
      injection this
    exact e2.trans (by rw [e3])
  have H : Hid (IsT W nn ⟨tb, rb, delta, R⟩ ∧ TagAt W w.heap.size 0 0 ∧ Kept (fun _ => False) w W ∧ HasS W pq (TS ⟨tb, rb, delta, R⟩ key) ∧ Value.pointer pp = pv pq ∧ tb < w.heap.size ∧ rb < w.heap.size) := ⟨h.k0 KZ, by rw [hW]; exact TagAt.new w 0 0, KZ, hs, hpp.symm, b1, b2⟩
  have EW : Hid (W = w.alloc (.cells #[.int .i64 0, .int .i64 0] 37)) := hW
  have e0 : W.cell? ⟨tb, 0, none⟩ = some (.int .i64 delta) := cell_blk H.out.1.blk 0 rfl
  have e1 : W.cell? ⟨tb, 1, none⟩ = some (.map (some rb)) := cell_blk H.out.1.blk 1 rfl
  have ld : (Instr.lookup 83 (.map (some rb)) (.string key) false).run Tryz.prog W.drew = .ok (.agg #[.map bb, .pointer pp]) W.drew := AT.out _ _ ((Kept.refl (fun _ => False) W).drew) (fun z => z)
  clear h KZ hW hk hs lo hpp b1 b2 lk
  dsimp only
  go_enter Tryz.func24, Tryz.ntmps24
  go_upto_region 1 with fail
  rw [← EW.out]
  go_upto_region 3 with fail
  go_region_held3 (fun w' => w'.cell? ⟨tb, 0, none⟩ = some (.int .i64 delta) ∧ w'.cell? ⟨tb, 1, none⟩ = some (.map (some rb)) ∧ (Instr.lookup 83 (.map (some rb)) (.string key) false).run Tryz.prog w' = .ok (.agg #[.map bb, .pointer pp]) w') (first | go_keep | exact SK.out)
    (first
      | (go_at_call 43; refine (rFloor (.map bb) (.pointer pp) pq H.out.2.2.2.2.1 (TS ⟨tb, rb, delta, R⟩ key) delta W.drew ⟨bb, rfl⟩ (H.out.2.2.2.1.k0 ((Kept.refl _ _).drew))).mono ?_; rintro o w2 ⟨x, y, rfl, hf, K2⟩
         have K23 : Kept (fun _ => False) W w2 := ((Kept.refl _ _).drew).and0 K2
         have H2 : Hid (TagAt w2 w.heap.size 0 0 ∧ Kept (fun _ => False) w w2 ∧ floorT (TS ⟨tb, rb, delta, R⟩ key) delta = (x, y)) := ⟨⟨K23.get H.out.2.1.blk (fun z => z)⟩, H.out.2.2.1.and0 K23, hf⟩
         have KS : Kept (fun k => k = w.heap.size) W ((w2.setCell ⟨w.heap.size, 0, none⟩ (.int .i64 x)).setCell ⟨w.heap.size, 1, none⟩ (.int .i64 y)) := ((K23.mono (S' := fun k => k = w.heap.size) (fun _ _ z => z.elim)).setCell (p := ⟨w.heap.size, 0, none⟩) (fun _ => rfl) _).setCell (p := ⟨w.heap.size, 1, none⟩) (fun _ => rfl) _
         have SK : Hid (((w2.setCell ⟨w.heap.size, 0, none⟩ (.int .i64 x)).setCell ⟨w.heap.size, 1, none⟩ (.int .i64 y)).cell? ⟨tb, 0, none⟩ = some (.int .i64 delta) ∧ ((w2.setCell ⟨w.heap.size, 0, none⟩ (.int .i64 x)).setCell ⟨w.heap.size, 1, none⟩ (.int .i64 y)).cell? ⟨tb, 1, none⟩ = some (.map (some rb)) ∧ (Instr.lookup 83 (.map (some rb)) (.string key) false).run Tryz.prog ((w2.setCell ⟨w.heap.size, 0, none⟩ (.int .i64 x)).setCell ⟨w.heap.size, 1, none⟩ (.int .i64 y)) = .ok (.agg #[.map bb, .pointer pp]) ((w2.setCell ⟨w.heap.size, 0, none⟩ (.int .i64 x)).setCell ⟨w.heap.size, 1, none⟩ (.int .i64 y))) := ⟨KS.cell e0 (by have := H.out.2.2.2.2.2.1; show ¬ tb = w.heap.size; omega), KS.cell e1 (by have := H.out.2.2.2.2.2.1; show ¬ tb = w.heap.size; omega), AT.out _ _ KS (by have := H.out.2.2.2.2.2.2; show ¬ rb = w.heap.size; omega)⟩
         have q0 : w2.cell? ⟨tb, 0, none⟩ = some (.int .i64 delta) := K23.cell e0 (fun z => z)
         have q1 : w2.cell? ⟨tb, 1, none⟩ = some (.map (some rb)) := K23.cell e1 (fun z => z)
         have q2 := AT.out _ _ K23 (fun z => z)
         obtain ⟨t0, t1, f0, f1⟩ := H2.out.1.facts
         clear hf K2 K23 KS)
      | fail)
  go_wp2_with fail
  exact bodyPost_ret (results_tag rfl _ _ _ x y rfl ((H2.out.1.set0 _).set1 _)) rfl ⟨x, y, rfl, H2.out.2.2, (H2.out.2.1.setCell (p := ⟨w.heap.size, 0, none⟩) (fun z => by have z : w.heap.size < w.heap.size := z; omega) _).setCell (p := ⟨w.heap.size, 1, none⟩) (fun z => by have z : w.heap.size < w.heap.size := z; omega) _⟩
end Go.Proofs.YtojepeefphbekaaGreat

namespace Go.Proofs.YtojepeefphbekaaGreat
open Go.RowKit 

set_option maxRecDepth 100000 in
set_option maxHeartbeats 2000000 in
theorem entriesN (pp : Option Addr) (w : World) : Calls Tryz.prog 36 #[.agg #[.map none, .pointer pp]] w fun o w' => ∃ (p : Option Addr) (cp : Nat), o = .returned (.slice p 0 cp) ∧ w'.ownsRow w.heap.size 40 5 (.slice p 0 cp) 0 (ecells []) ∧ Kept (fun _ => False) w w' := by
  obtain ⟨W, hW⟩ : ∃ W, W = w.alloc (.cells #[.map none, .pointer pp] 89) := ⟨_, rfl⟩
  have KZ : Kept (fun _ => False) w W := by rw [hW]; exact k0_alloc _ _
  have bW : W.heap[w.heap.size]? = some (.cells #[.map none, .pointer pp] 89 (0, 0)) := by rw [hW]; exact heap_alloc_new _ _
  have ln : ∀ ty, (Builtin.len_ #[86] ty #[.map none]).run Tryz.prog W = .ok (.int .i64 0) W := fun ty => Maps.len_nil Tryz.underlying86 ty
  obtain ⟨i0, hi, hz0, hz1, hz2⟩ := info_parts Tryz.info40c
  obtain ⟨w3, mk, ow, gr⟩ := run_make_own (P := Tryz.prog) W w.heap.size 33 40 i0 _ 5 Tryz.underlying33 hi hz0 hz1 .i64 .i64 0 (by omega) (by unfold maxLen; omega) KZ.size
  have K3 : Kept (fun _ => False) W w3 := (Kept.refl _ W).grown gr (fun k _ z => by cases z)
  obtain ⟨g0, hg0⟩ : ∃ g0, g0 = W.heap.size := ⟨_, rfl⟩
  rw [← hg0] at mk ow
  have mk : (Instr.makeSlice 33 (.int .i64 0) (.int .i64 0)).run Tryz.prog W = .ok (.slice (some ⟨g0, 0, none⟩) 0 0) w3 := mk
  have rn := run_range_nilMap (P := Tryz.prog) w3 86 37 94 Tryz.underlying86
  have nx : ∀ ty, (Instr.next (.pointer (some ⟨w3.heap.size, 0, none⟩)) false ty).run Tryz.prog (w3.alloc (.mapIter none 0 #[] 0)) = .ok (.tuple #[.bool false]) (w3.alloc (.mapIter none 0 #[] 0)) := fun ty => run_next_nilMap w3 ty 0 0 #[]
  have H : Hid (w3.ownsRow w.heap.size 40 5 (.slice (some ⟨g0, 0, none⟩) 0 0) 0 [] ∧ Kept (fun _ => False) w w3 ∧ w3.heap[w.heap.size]? = some (.cells #[.map none, .pointer pp] 89 (0, 0))) := ⟨ow, KZ.and0 K3, K3.get bW (fun z => z)⟩
  have EW : Hid (W = w.alloc (.cells #[.map none, .pointer pp] 89)) := hW
  have c0 := cell_blk bW 0 (v := .map none) rfl
  have d0 := cell_blk H.out.2.2 0 (v := .map none) rfl
  clear KZ bW hi hz0 hz1 hz2 ow gr K3 hg0 hW
  go_enter Tryz.func36, Tryz.ntmps36
  go_upto_region 1 with fail
  rw [← EW.out]
  go_wp2_with fail
  refine wp_loop_rounds 1 ?_
  rw [rounds_succ]
  go_wp2_with fail
  refine (sortE g0 0 0 w.heap.size [] _ ((k0_alloc w3 _).owns H.out.1 (fun _ _ z => z)) (by omega)).mono ?_
  rintro o w8 ⟨rfl, L', P, _, ow', K8⟩
  have F : Hid (w8.ownsRow w.heap.size 40 5 (.slice (some ⟨g0, 0, none⟩) 0 0) 0 (ecells []) ∧ Kept (fun _ => False) w w8) := by
    have e : L' = [] := List.Perm.eq_nil P
    rw [e] at ow'
    refine ⟨ow', (H.out.2.1.alloc _).trans K8 (fun j hj z => ?_)⟩
    have z : j = g0 := z
    have := (own_lt H.out.1 g0 rfl).1
    omega
  clear P ow' K8
  go_wp2_with fail
  go_ret
  exact ⟨some ⟨g0, 0, none⟩, 0, rfl, F.out.1, F.out.2⟩
set_option maxRecDepth 100000 in
set_option maxHeartbeats 2000000 in
theorem tEntries (nn : Nat) (t : TK) (key : ByteArray) (dat : Int × Int → List Nat) (w : World) (h : IsT w nn t) (hk : key.size ≤ maxLen) (hd : ∀ r, t.R key = some r → DataAt w r.M dat) (hn : nn ≤ 4398046511104) : Calls Tryz.prog 14 #[.pointer (some ⟨t.tb, 0, none⟩), .string key] w fun o w' => ∃ (p : Option Addr) (cp : Nat) (L : List ((Int × Int) × Bool × Bool × Option Addr × Nat × Nat)), o = .returned (.slice p L.length cp) ∧ GE (TMp t key) (fun _ => False) L ∧ (L.Pairwise fun x y => ¬ tc y.1 x.1 < 0) ∧ w'.ownsRow w.heap.size 40 5 (.slice p L.length cp) L.length (ecells L) ∧ Kept (fun _ => False) w w' ∧ EOK w' L dat := by
  obtain ⟨tb, rb, delta, R⟩ := t
  have lk := h.rows.look rowsK hk
  have e1 : w.cell? ⟨tb, 1, none⟩ = some (.map (some rb)) := cell_blk h.blk 1 rfl
  have HR : Hid (∀ r, R key = some r → IsRow w nn r ∧ DataAt w r.M dat ∧ nn ≤ 4398046511104) := fun r hr => ⟨h.row key r hr, hd r hr, hn⟩
  dsimp only at lk ⊢
  cases hr : R key with
  | none =>
    have e2 : TMp ⟨tb, rb, delta, R⟩ key = fun _ => none := by
      unfold TMp
      dsimp only
      rw [hr]
      rfl
    have e3 : RV.val ((TK.rv ⟨tb, rb, delta, R⟩ key).getD RV.zero) = .agg #[.map none, .pointer none] := by
      unfold TK.rv
      dsimp only
      rw [hr]
      rfl
    rw [e3] at lk
    rw [e2]
    clear h hk hd hn e2 e3 hr HR
    go_enter Tryz.func14, Tryz.ntmps14
    go_wp2_with fail
    refine (entriesN none w).mono ?_
    rintro o w2 ⟨p, cp, rfl, ow, K2⟩
    have F : Hid (w2.ownsRow w.heap.size 40 5 (.slice p 0 cp) 0 (ecells []) ∧ Kept (fun _ => False) w w2) := ⟨ow, K2⟩
    clear ow K2
    go_wp2_with fail
    go_ret
    exact ⟨p, cp, [], rfl, ⟨fun t k hm => (by cases hm), fun e he => (by cases he), by simp⟩, List.Pairwise.nil, F.out.1, F.out.2, fun e he => (by cases he)⟩
  | some r =>
    have e2 : TMp ⟨tb, rb, delta, R⟩ key = r.M := by
      unfold TMp
      dsimp only
      rw [hr]
      rfl
    have e3 : RV.val ((TK.rv ⟨tb, rb, delta, R⟩ key).getD RV.zero) = .agg #[.map (some r.mb), .pointer (some ⟨r.sb, 0, none⟩)] := by
      unfold TK.rv
      dsimp only
      rw [hr]
      rfl
    rw [e3] at lk
    rw [e2]
    obtain ⟨i1, i2, i3⟩ := HR.out r hr
    have HI : Hid (IsRow w nn r ∧ DataAt w r.M dat ∧ nn ≤ 4398046511104) := ⟨i1, i2, i3⟩
    clear h hk hd hn e2 e3 hr HR i1 i2 i3
    go_enter Tryz.func14, Tryz.ntmps14
    go_wp2_with fail
    refine (entriesB nn r dat w HI.out.1 HI.out.2.1 HI.out.2.2).mono ?_
    rintro o w2 ⟨p, cp, L, rfl, ge, srt, ow, K2, eo⟩
    have F : Hid (GE r.M (fun _ => False) L ∧ (L.Pairwise fun x y => ¬ tc y.1 x.1 < 0) ∧ w2.ownsRow w.heap.size 40 5 (.slice p L.length cp) L.length (ecells L) ∧ Kept (fun _ => False) w w2 ∧ EOK w2 L dat) := ⟨ge, srt, ow, K2, eo⟩
    clear ge srt ow K2 eo
    go_wp2_with fail
    go_ret
    exact ⟨p, cp, L, rfl, F.out.1, F.out.2.1, F.out.2.2.1, F.out.2.2.2.1, F.out.2.2.2.2⟩
end Go.Proofs.YtojepeefphbekaaGreat

namespace Go.Proofs.YtojepeefphbekaaGreat
open Go.RowKit

/-- How many have a fragment. -/
def hasN (L : List ((Int × Int) × Bool × Bool × Option Addr × Nat × Nat)) : Nat := (L.filter fun e => e.2.2.1).length
theorem hasN_snoc (L : List ((Int × Int) × Bool × Bool × Option Addr × Nat × Nat)) (e : (Int × Int) × Bool × Bool × Option Addr × Nat × Nat) : hasN (L ++ [e]) = hasN L + (if e.2.2.1 = true then 1 else 0) := by
  unfold hasN
  rw [List.filter_append, List.length_append]
  by_cases h : e.2.2.1 = true
  · simp [h]
  · simp [h]
theorem hasN_le (L : List ((Int × Int) × Bool × Bool × Option Addr × Nat × Nat)) : hasN L ≤ L.length := List.length_filter_le _ _
def FI (w : World) (mb rr n cnt0 : Nat) (M : Int × Int → Option Hd) (v : Value) (wr : World) (cnt : Nat) : Prop :=
  ∃ (L : List ((Int × Int) × Bool × Bool × Option Addr × Nat × Nat)) (Lf : Int × Int → Prop), v = .int .i64 (hasN L : Int) ∧ RG 37 tl TFit Hd.val RH wr mb rr n M Lf cnt ∧ GE M Lf L ∧ Kept (fun _ => False) w wr ∧ L.length + cnt ≤ cnt0
set_option maxRecDepth 100000 in
set_option maxHeartbeats 2000000 in
theorem fragmentsB (n : Nat) (r : RK) (w : World) (h : IsRow w n r) (hn : n ≤ 4398046511104) : Calls Tryz.prog 67 #[.agg #[.map (some r.mb), .pointer (some ⟨r.sb, 0, none⟩)]] w fun o w' => ∃ (L : List ((Int × Int) × Bool × Bool × Option Addr × Nat × Nat)), o = .returned (.int .i64 (hasN L : Int)) ∧ GE r.M (fun _ => False) L ∧ Kept (fun _ => False) w w' := by
  obtain ⟨mb, sb, q, len, cap, S, M⟩ := r
  have h : IsRow w n ⟨mb, sb, q, len, cap, S, M⟩ := h
  obtain ⟨W, hW⟩ : ∃ W, W = w.alloc (.cells #[.map (some mb), .pointer (some ⟨sb, 0, none⟩)] 89) := ⟨_, rfl⟩
  have KZ : Kept (fun _ => False) w W := by rw [hW]; exact k0_alloc _ _
  have bW : W.heap[w.heap.size]? = some (.cells #[.map (some mb), .pointer (some ⟨sb, 0, none⟩)] 89 (0, 0)) := by rw [hW]; exact heap_alloc_new _ _
  have H : Hid (TM 37 tl TFit Hd.val RH W mb n M ∧ Kept (fun _ => False) w W ∧ mb < w.heap.size ∧ n ≤ 4398046511104) := ⟨h.tm.kept KZ (fun z => z), KZ, h.lt (.inl rfl), hn⟩
  have EW : Hid (W = w.alloc (.cells #[.map (some mb), .pointer (some ⟨sb, 0, none⟩)] 89)) := hW
  have c0 := cell_blk bW 0 (v := .map (some mb)) rfl
  clear h hn KZ bW hW
  dsimp only
  go_enter Tryz.func67, Tryz.ntmps67
  go_upto_region 1 with fail
  rw [← EW.out]
  go_wp2_with
    (first
      | (at_range; refine wpList_rng tagsK _ rfl _ rfl mb n M rfl H.out.1 ?_; intro w4 hrg0 hk0 hs0)
      | fail)
  obtain ⟨rr, hrr⟩ : ∃ rr, rr = W.heap.size := ⟨_, rfl⟩
  rw [← hrr]
  have I0 : Hid (∃ cnt0, cnt0 ≤ n ∧ FI w mb rr n cnt0 M (.int .i64 0) w4 cnt0 ∧ w.heap.size ≤ rr) := by
    obtain ⟨cnt, g⟩ := hrg0.out
    rw [← hrr] at g
    refine ⟨cnt, g.cnt_le, ⟨[], _, rfl, g, ⟨fun t k hm => .inl (by rw [hm]; simp), fun e he => (by cases he), by simp⟩, H.out.2.1.and0 hk0.out, by simp⟩, ?_⟩
    have := H.out.2.1.size
    omega
  obtain ⟨cnt0, hc0, hI0, hrl⟩ := I0.out
  have C0 : Hid (cnt0 ≤ n ∧ FI w mb rr n cnt0 M (.int .i64 0) w4 cnt0 ∧ w.heap.size ≤ rr) := ⟨hc0, hI0, hrl⟩
  clear hrg0 hk0 hs0 hrr I0 hc0 hI0 hrl c0
  (try go_frame)
  go_loopw [3] (fun v wr => ∃ cnt, Hid (FI w mb rr n cnt0 M v wr cnt)) (fun _ wr => wr.rangeLeft mb rr)
  case atStart => exact ⟨cnt0, C0.out.2.1⟩
  case round =>
    obtain ⟨cnt, I⟩ := hrel
    obtain ⟨wq, rfl⟩ : ∃ wq : World, wq = wr := ⟨_, rfl⟩
    obtain ⟨L, Lf, ev, rg, ge, Kq, hb⟩ := I.out
    subst ev
    have J : Hid (RG 37 tl TFit Hd.val RH wq mb rr n M Lf cnt ∧ GE M Lf L ∧ Kept (fun _ => False) w wq ∧ L.length + cnt ≤ cnt0) := ⟨rg, ge, Kq, hb⟩
    clear rg ge Kq hb
    obtain ⟨kk, hkk⟩ : ∃ kk : Nat, kk = hasN L := ⟨_, rfl⟩
    have HK : Hid (kk = hasN L) := hkk
    rw [← hkk]
    clear hkk
    go_wp2_with
      (first
        | (at_next; refine wpList_nxt tagsK _ rfl _ rfl mb rr n M Lf cnt rfl J.out.1 ?_ ?_)
        | fail)
    · intro hdn
      have F8 : Hid (GE M (fun _ => False) L) := by
        obtain ⟨D', _, sD⟩ := J.out.1.tm
        exact J.out.2.1.done (List.Perm.refl _) sD.2 (fun t ht => hdn.out t.1 t.2 ht)
      go_wp2_with fail
      go_ret
      exact ⟨L, by rw [← HK.out]; rfl, F8.out, J.out.2.2.1⟩
    · intro ta tb hd w5 cnt5 hk hrg hlt hK hen
      obtain ⟨df, dh, da, dn, dc⟩ := hd
      replace hen : (Instr.entry (.pointer (some ⟨rr, 0, none⟩))).run Tryz.prog w5 = .ok (.tuple #[.agg #[.int .i64 ta, .int .i64 tb], .agg #[.bool df, .bool dh, .slice da dn dc]]) w5 := hen
      dsimp only [tv, Hd.val]
      have BL : Hid (kk + 1 < 9223372036854775807 ∧ L.length + 1 + cnt5 ≤ cnt0) := by
        have h1 := J.out.2.2.2
        have h2 := C0.out.1
        have h3 := H.out.2.2.2
        have h4 := hlt.out
        have h5 := hasN_le L
        have h6 := HK.out
        exact ⟨by omega, by omega⟩
      have J6 : Hid (RG 37 tl TFit Hd.val RH (w5.alloc (.cells #[.bool df, .bool dh, .slice da dn dc] 94)) mb rr n M (fun j => Lf j ∧ j ≠ (ta, tb)) cnt5 ∧ Kept (fun _ => False) w (w5.alloc (.cells #[.bool df, .bool dh, .slice da dn dc] 94))) := by
        have K5 : Kept (fun _ => False) w w5 := J.out.2.2.1.trans hK.out (fun j hj z => by have z : j = rr := z; have := C0.out.2.2; omega)
        exact ⟨hrg.out.kept (k0_alloc _ _) (fun z => z) (fun z => z), K5.alloc _⟩
      have wk : wrap64 ((kk : Int) + 1) = (kk : Int) + 1 := by have := BL.out.1; unfold wrap64; omega
      cases dh
      · go_wp2_with fail
        go_roundw
        case rel =>
          refine ⟨cnt5, L ++ [((ta, tb), df, false, none, dn, 0)], _, ?_, J6.out.1, J.out.2.1.more (h := ⟨df, false, da, dn, dc⟩) hk.out.2.1 hk.out.2.2 none 0, J6.out.2, by rw [List.length_append]; exact BL.out.2⟩
          rw [hasN_snoc, HK.out]
          simp
        case measure =>
          rw [J6.out.1.left_eq, J.out.1.left_eq]
          exact hlt.out
      · go_wp2_with fail
        go_roundw
        case rel =>
          refine ⟨cnt5, L ++ [((ta, tb), df, true, none, dn, 0)], _, ?_, J6.out.1, J.out.2.1.more (h := ⟨df, true, da, dn, dc⟩) hk.out.2.1 hk.out.2.2 none 0, J6.out.2, by rw [List.length_append]; exact BL.out.2⟩
          rw [hasN_snoc, ← HK.out]
          simp [wk]
        case measure =>
          rw [J6.out.1.left_eq, J.out.1.left_eq]
          exact hlt.out
end Go.Proofs.YtojepeefphbekaaGreat
