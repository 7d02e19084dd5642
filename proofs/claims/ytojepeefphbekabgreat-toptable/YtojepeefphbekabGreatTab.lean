import Derived.Test.YtojepeefphbekabGreatRowD
namespace Go.Proofs.YtojepeefphbekabGreat
open Go.RowKit

/-- A table: its block, the block of its rows, how many more are kept, what is held of each key. -/
structure TK where
  tb : Nat
  rb : Nat
  delta : Int
  R : ByteArray → Option RK
def TK.rv (t : TK) (k : ByteArray) : Option RV := (t.R k).map fun r => ⟨some r.mb, some r.sb⟩
def TS (t : TK) (k : ByteArray) : List (Int × Int) := ((t.R k).map RK.S).getD []
def TMp (t : TK) (k : ByteArray) : Int × Int → Option Hd := ((t.R k).map RK.M).getD (fun _ => none)
structure IsT (w : World) (n : Nat) (t : TK) : Prop where
  blk : w.heap[t.tb]? = some (.cells #[.int .i64 t.delta, .map (some t.rb)] 54 (0, 0))
  rows : TM 9 (fun s : ByteArray => Lit.string s.data.toList) (fun s : ByteArray => s.size ≤ maxLen) RV.val RR w t.rb n t.rv
  row : ∀ k r, t.R k = some r → IsRow w n r
  len : ∀ k r, t.R k = some r → (r.len + 1) * 16 ≤ 211106232532992
  apart : ∀ k k' r r', t.R k = some r → t.R k' = some r' → k ≠ k' → ∀ b, r.Uses b → ¬ r'.Uses b
  own : ∀ k r, t.R k = some r → ¬ r.Uses t.rb ∧ ¬ r.Uses t.tb
theorem IsT.k0 {w w' : World} {n : Nat} {t : TK} (h : IsT w n t) (K : Kept (fun _ => False) w w') : IsT w' n t :=
  ⟨K.get h.blk (fun z => z), h.rows.kept K (fun z => z), fun k r hr => (h.row k r hr).k0 K, h.len, h.apart, h.own⟩
/-- What a key's row looks like to who asks. -/
theorem IsT.at {w : World} {n : Nat} {t : TK} (h : IsT w n t) (k : ByteArray) (hk : k.size ≤ maxLen) : ∃ b p, (Instr.lookup 52 (.map (some t.rb)) (.string k) false).run Tryz.prog w = .ok (.agg #[.map b, pv p]) w ∧ Looks w (.map b) (TMp t k) ∧ HasS w p (TS t k) := by
  have e := h.rows.look rowsK hk
  cases hr : t.R k with
  | none =>
    refine ⟨none, none, ?_, .inl ⟨rfl, ?_⟩, .inl ⟨rfl, ?_⟩⟩
    · rw [e]
      unfold TK.rv
      rw [hr]
      rfl
    · unfold TMp
      rw [hr]
      rfl
    · unfold TS
      rw [hr]
      rfl
  | some r =>
    have i := h.row k r hr
    refine ⟨some r.mb, some r.sb, ?_, .inr ⟨r.mb, n, rfl, ?_⟩, .inr ⟨r.sb, r.q, r.len, r.cap, rfl, ?_, ?_⟩⟩
    · rw [e]
      unfold TK.rv
      rw [hr]
      rfl
    · unfold TMp
      rw [hr]
      exact i.tm
    · unfold TS
      rw [hr]
      exact i.st.sv
    · have := h.len k r hr
      omega
/-- What Would says. -/
def wouldF (t : TK) (u : Upd) : Bool := (lackF (TS t u.key) (TMp t u.key) u t.delta).1 || (lackF (TS t u.key) (TMp t u.key) u t.delta).2
def wouldV (t : TK) (u : Upd) : Bool × Int := if u.may = true then (wouldF t u, 0) else (false, 1)
theorem would_nil (u : Upd) (w : World) : Calls Tryz.prog 6 #[.pointer none, u.val] w fun o w' => o = .returned (.tuple #[.bool false, .int .i64 0]) ∧ Kept (fun _ => False) w w' := by
  obtain ⟨kd, key, x, y, fin, has, a, n, c⟩ := u
  unfold Upd.val
  dsimp only
  go_enter Tryz.func6, Tryz.ntmps6
  go_wp2_with fail
  go_ret2
  exact ⟨rfl, k0_alloc _ _⟩
theorem neq71 (p q : Bool) (w : World) : (binOp .neq 56 (.agg #[.bool p, .bool q]) (.agg #[.bool false, .bool false])).run Tryz.prog w = .ok (.bool (p || q)) w := by
  cases p <;> cases q <;> kernel_rfl
set_option maxRecDepth 100000 in
set_option maxHeartbeats 2000000 in
theorem would (nn : Nat) (t : TK) (u : Upd) (w : World) (h : IsT w nn t) (hk : u.key.size ≤ maxLen) (ft : TFit (u.x, u.y)) : Calls Tryz.prog 6 #[.pointer (some ⟨t.tb, 0, none⟩), u.val] w fun o w' => o = .returned (.tuple #[.bool (wouldV t u).1, .int .i64 (wouldV t u).2]) ∧ Kept (fun _ => False) w w' := by
  obtain ⟨tb, rb, delta, R⟩ := t
  obtain ⟨kd, key, x, y, fin, has, a, n, c⟩ := u
  obtain ⟨W, hW⟩ : ∃ W, W = w.alloc (.cells #[.int .i64 kd, .string key, .int .i64 x, .int .i64 y, .bool fin, .bool has, .slice a n c] 36) := ⟨_, rfl⟩
  have KZ : Kept (fun _ => False) w W := by rw [hW]; exact k0_alloc _ _
  have H : Hid (IsT W nn ⟨tb, rb, delta, R⟩ ∧ W.heap[w.heap.size]? = some (.cells #[.int .i64 kd, .string key, .int .i64 x, .int .i64 y, .bool fin, .bool has, .slice a n c] 36 (0, 0)) ∧ Kept (fun _ => False) w W) := by
    refine ⟨h.k0 KZ, ?_, KZ⟩
    rw [hW]
    exact heap_alloc_new _ _
  have EW : Hid (W = w.alloc (.cells #[.int .i64 kd, .string key, .int .i64 x, .int .i64 y, .bool fin, .bool has, .slice a n c] 36)) := hW
  have FT : Hid (TFit (x, y) ∧ key.size ≤ maxLen) := ⟨ft, hk⟩
  have MB : Hid (∀ V, Calls Tryz.prog 20 #[.agg #[.int .i64 kd, .string key, .int .i64 x, .int .i64 y, .bool fin, .bool has, .slice a n c]] V fun z w' => z = .returned (.bool (Upd.may ⟨kd, key, x, y, fin, has, a, n, c⟩)) ∧ Kept (fun _ => False) V w') := fun V => mayBe ⟨kd, key, x, y, fin, has, a, n, c⟩ V
  unfold Upd.val
  dsimp only
  clear h KZ hW ft hk
  go_enter Tryz.func6, Tryz.ntmps6
  go_upto_region 1 with fail
  rw [← EW.out]
  have g0 := cell_blk H.out.2.1 0 (v := .int .i64 kd) rfl
  have g1 := cell_blk H.out.2.1 1 (v := .string key) rfl
  have g2 := cell_blk H.out.2.1 2 (v := .int .i64 x) rfl
  have g3 := cell_blk H.out.2.1 3 (v := .int .i64 y) rfl
  have g4 := cell_blk H.out.2.1 4 (v := .bool fin) rfl
  have g5 := cell_blk H.out.2.1 5 (v := .bool has) rfl
  have g6 := cell_blk H.out.2.1 6 (v := .slice a n c) rfl
  go_wp2_with fail
  refine (MB.out W).mono ?_
  rintro o w2 ⟨rfl, K2⟩
  have H2 : Hid (IsT w2 nn ⟨tb, rb, delta, R⟩ ∧ w2.heap[w.heap.size]? = some (.cells #[.int .i64 kd, .string key, .int .i64 x, .int .i64 y, .bool fin, .bool has, .slice a n c] 36 (0, 0)) ∧ Kept (fun _ => False) w w2) := ⟨H.out.1.k0 K2, K2.get H.out.2.1 (fun z => z), H.out.2.2.and0 K2⟩
  clear K2 g0 g1 g2 g3 g4 g5 g6
  obtain ⟨mb, hmb⟩ : ∃ mb, mb = Upd.may ⟨kd, key, x, y, fin, has, a, n, c⟩ := ⟨_, rfl⟩
  have HM : Hid (mb = Upd.may ⟨kd, key, x, y, fin, has, a, n, c⟩) := hmb
  rw [← hmb]
  clear hmb
  cases mb
  · go_wp2_with fail
    go_ret2
    have e : wouldV ⟨tb, rb, delta, R⟩ ⟨kd, key, x, y, fin, has, a, n, c⟩ = (false, 1) := by unfold wouldV; rw [← HM.out]; rfl
    exact ⟨by rw [e]; rfl, H2.out.2.2⟩
  · go_upto_region 5 with fail
    obtain ⟨bb, pq, lk, lo, hs⟩ := H2.out.1.at key FT.out.2
    obtain ⟨pp, hpp⟩ : ∃ pp, pv pq = .pointer pp := ⟨_, rfl⟩
    rw [hpp] at lk
    have AT : Hid (∀ V, Kept (fun _ => False) w2 V → (Instr.lookup 52 (.map (some rb)) (.string key) false).run Tryz.prog V = .ok (.agg #[.map bb, .pointer pp]) V ∧ Looks V (.map bb) (TMp ⟨tb, rb, delta, R⟩ key) ∧ HasS V pq (TS ⟨tb, rb, delta, R⟩ key)) := by
      intro V K
      have e := H2.out.1.rows.look rowsK FT.out.2
      have e2 := (H2.out.1.rows.kept K (fun z => z)).look rowsK FT.out.2
      have e3 : RV.val ((TK.rv ⟨tb, rb, delta, R⟩ key).getD RV.zero) = .agg #[.map bb, .pointer pp] := by
        have := e.symm.trans lk
        injection this
      refine ⟨?_, lo.k0 K, hs.k0 K⟩
      exact e2.trans (by rw [e3])
    have HP : Hid (Value.pointer pp = pv pq) := hpp.symm
    clear lo hs hpp
    have g0 := cell_blk H2.out.2.1 0 (v := .int .i64 kd) rfl
    have g1 := cell_blk H2.out.2.1 1 (v := .string key) rfl
    have g2 := cell_blk H2.out.2.1 2 (v := .int .i64 x) rfl
    have g3 := cell_blk H2.out.2.1 3 (v := .int .i64 y) rfl
    have g4 := cell_blk H2.out.2.1 4 (v := .bool fin) rfl
    have g5 := cell_blk H2.out.2.1 5 (v := .bool has) rfl
    have g6 := cell_blk H2.out.2.1 6 (v := .slice a n c) rfl
    have e0 : w2.cell? ⟨tb, 0, none⟩ = some (.int .i64 delta) := cell_blk H2.out.1.blk 0 rfl
    have e1 : w2.cell? ⟨tb, 1, none⟩ = some (.map (some rb)) := cell_blk H2.out.1.blk 1 rfl
    have ld : (Instr.lookup 52 (.map (some rb)) (.string key) false).run Tryz.prog w2.drew = .ok (.agg #[.map bb, .pointer pp]) w2.drew := (AT.out _ (Kept.refl _ _).drew).1
    have NQ := neq71
    go_region_held3 (fun w' => w'.cell? ⟨tb, 0, none⟩ = some (.int .i64 delta) ∧ w'.cell? ⟨tb, 1, none⟩ = some (.map (some rb)) ∧ w'.cell? ⟨w.heap.size, 0, none⟩ = some (.int .i64 kd) ∧ w'.cell? ⟨w.heap.size, 1, none⟩ = some (.string key) ∧ w'.cell? ⟨w.heap.size, 2, none⟩ = some (.int .i64 x) ∧ w'.cell? ⟨w.heap.size, 3, none⟩ = some (.int .i64 y) ∧ w'.cell? ⟨w.heap.size, 4, none⟩ = some (.bool fin) ∧ w'.cell? ⟨w.heap.size, 5, none⟩ = some (.bool has) ∧ w'.cell? ⟨w.heap.size, 6, none⟩ = some (.slice a n c) ∧ (Instr.lookup 52 (.map (some rb)) (.string key) false).run Tryz.prog w' = .ok (.agg #[.map bb, .pointer pp]) w') (first | go_keep)
      (first
        | (go_at_call 21; refine (rLacks (.map bb) (.pointer pp) pq HP.out (TS ⟨tb, rb, delta, R⟩ key) (TMp ⟨tb, rb, delta, R⟩ key) ⟨kd, key, x, y, fin, has, a, n, c⟩ delta w2.drew ⟨bb, rfl⟩ (AT.out _ (Kept.refl _ _).drew).2.1 (AT.out _ (Kept.refl _ _).drew).2.2 FT.out.1).mono ?_; rintro o w3 ⟨rfl, K3⟩
           have K23 : Kept (fun _ => False) w2 w3 := ((Kept.refl _ _).drew).and0 K3
           have H3 : Hid (IsT w3 nn ⟨tb, rb, delta, R⟩ ∧ w3.heap[w.heap.size]? = some (.cells #[.int .i64 kd, .string key, .int .i64 x, .int .i64 y, .bool fin, .bool has, .slice a n c] 36 (0, 0)) ∧ Kept (fun _ => False) w w3) := ⟨H2.out.1.k0 K23, K23.get H2.out.2.1 (fun z => z), H2.out.2.2.and0 K23⟩
           have lk3 := (AT.out _ K23).1
           have g0 := cell_blk H3.out.2.1 0 (v := .int .i64 kd) rfl
           have g1 := cell_blk H3.out.2.1 1 (v := .string key) rfl
           have g2 := cell_blk H3.out.2.1 2 (v := .int .i64 x) rfl
           have g3 := cell_blk H3.out.2.1 3 (v := .int .i64 y) rfl
           have g4 := cell_blk H3.out.2.1 4 (v := .bool fin) rfl
           have g5 := cell_blk H3.out.2.1 5 (v := .bool has) rfl
           have g6 := cell_blk H3.out.2.1 6 (v := .slice a n c) rfl
           have e0 : w3.cell? ⟨tb, 0, none⟩ = some (.int .i64 delta) := cell_blk H3.out.1.blk 0 rfl
           have e1 : w3.cell? ⟨tb, 1, none⟩ = some (.map (some rb)) := cell_blk H3.out.1.blk 1 rfl
           clear K3 K23)
        | fail)
    go_wp2_with fail
    go_ret2
    have e : wouldV ⟨tb, rb, delta, R⟩ ⟨kd, key, x, y, fin, has, a, n, c⟩ = (wouldF ⟨tb, rb, delta, R⟩ ⟨kd, key, x, y, fin, has, a, n, c⟩, 0) := by unfold wouldV; rw [← HM.out]; rfl
    refine ⟨?_, H3.out.2.2⟩
    rw [e]
    rfl
end Go.Proofs.YtojepeefphbekabGreat
