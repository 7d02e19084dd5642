import Derived.Test.YtojepeefphbekaaGreatPWouldRJ
import Derived.Test.YtojepeefphbekaaGreatPEntsR
namespace Go.Proofs.YtojepeefphbekaaGreat
open Go.RowKit 

/-- What Get answers. -/
def getR (x y : Int) : Option (Bool × Bool × List Nat) → Int × Int × Bool × Bool × List Nat × Bool
  | none => (0, 0, false, false, [], false)
  | some s => (x, y, s.1, s.2.1, s.2.2, true)
def GetAns (o : Ending) (w w' : World) (R : Int × Int × Bool × Bool × List Nat × Bool) : Prop := ∃ p n c, o = .returned (.tuple #[.agg #[.int .i64 R.1, .int .i64 R.2.1, .bool R.2.2.1, .bool R.2.2.2.1, .slice p n c], .bool R.2.2.2.2.2]) ∧ Reads w' p n c R.2.2.2.2.1 ∧ Kept (fun _ => False) w w'
theorem GetAns.mk {w w' : World} {R : Int × Int × Bool × Bool × List Nat × Bool} {x y : Int} {f g b : Bool} {l : List Nat} (p : Option Addr) (n c : Nat) (e : R = (x, y, f, g, l, b)) (r : Reads w' p n c l) (k : Kept (fun _ => False) w w') : GetAns (.returned (.tuple #[.agg #[.int .i64 x, .int .i64 y, .bool f, .bool g, .slice p n c], .bool b])) w w' R := by
  subst e
  exact ⟨p, n, c, rfl, r, k⟩
theorem look_nil2 (t : Int × Int) (ht : TFit t) (w : World) : (Instr.lookup 86 (.map none) (tv t) true).run Tryz.prog w = .ok (.tuple #[Hd.zero.val, .bool false]) w := by
  rcases tagsK.law.find w (key_tag t ht) [] (by simp) with ⟨h1, _⟩ | ⟨j, e, _, h2, _⟩
  · simp [Instr.lookup, run_underlying Tryz.underlying86, tagsK.law.check w _ (key_tag t ht), h1, Tryz.zeroValue94 w, Result.andThen, Hd.val, Hd.zero]
  · simp at h2
set_option maxRecDepth 100000 in
set_option maxHeartbeats 4000000 in
/-- Get, of a key that has a row. -/
theorem gGet (nn : Nat) (t : TK) (key : ByteArray) (dat : List Nat) (x y : Int) (w : World) (h : IsT w nn t) (hk : key.size ≤ maxLen) (ft : TFit (x, y)) (hd : ∀ hd, TMp t key (x, y) = some hd → Reads w hd.a hd.n hd.c dat ∧ hd.n ≤ 140737488355328) : Calls Tryz.prog 15 #[.pointer (some ⟨t.tb, 0, none⟩), .string key, .agg #[.int .i64 x, .int .i64 y]] w fun o w' => GetAns o w w' (getR x y ((TMp t key (x, y)).map fun hd => (hd.fin, hd.has, dat))) := by
  obtain ⟨tb, htb⟩ : ∃ tb, tb = t.tb := ⟨_, rfl⟩
  obtain ⟨rb, hrb⟩ : ∃ rb, rb = t.rb := ⟨_, rfl⟩
  obtain ⟨m1, hm1⟩ : ∃ m1, m1 = ((t.rv key).getD RV.zero).m := ⟨_, rfl⟩
  obtain ⟨p1, hp1⟩ : ∃ p1 : Option Addr, p1 = ((t.rv key).getD RV.zero).p.map fun b => ⟨b, 0, none⟩ := ⟨_, rfl⟩
  obtain ⟨b, hb⟩ : ∃ b, b = (TMp t key (x, y)).isSome := ⟨_, rfl⟩
  obtain ⟨⟨df, dh, da, dn, dc⟩, hh⟩ : ∃ hd : Hd, hd = (TMp t key (x, y)).getD Hd.zero := ⟨_, rfl⟩
  have RD : Hid ((b = true → Reads w da dn dc dat ∧ dn ≤ 140737488355328 ∧ getR x y ((TMp t key (x, y)).map fun hd => (hd.fin, hd.has, dat)) = (x, y, df, dh, dat, true)) ∧ (b = false → getR x y ((TMp t key (x, y)).map fun hd => (hd.fin, hd.has, dat)) = (0, 0, false, false, [], false))) := by
    refine ⟨fun z => ?_, fun z => ?_⟩
    · rw [z] at hb
      cases hm : TMp t key (x, y) with
      | none => rw [hm] at hb; cases hb
      | some k =>
        rw [hm] at hh
        have := hd k hm
        have hh : (⟨df, dh, da, dn, dc⟩ : Hd) = k := hh
        rw [← hh] at this ⊢
        exact ⟨this.1, this.2, rfl⟩
    · rw [z] at hb
      cases hm : TMp t key (x, y) with
      | none => rfl
      | some k => rw [hm] at hb; cases hb
  have L1 : Hid (∀ V, Kept (fun _ => False) w V → V.cell? ⟨tb, 1, none⟩ = some (.map (some rb)) ∧ (Instr.lookup 83 (.map (some rb)) (.string key) false).run Tryz.prog V = .ok (.agg #[.map m1, .pointer p1]) V ∧ (Instr.lookup 86 (.map m1) (.agg #[.int .i64 x, .int .i64 y]) true).run Tryz.prog V = .ok (.tuple #[.agg #[.bool df, .bool dh, .slice da dn dc], .bool b]) V) := by
    intro V K
    have i := h.k0 K
    have e1 := i.rows.look rowsK hk
    have e3 : RV.val ((t.rv key).getD RV.zero) = .agg #[.map m1, .pointer p1] := by rw [hm1, hp1]; rfl
    rw [e3] at e1
    have e2 : (Instr.lookup 86 (.map m1) (.agg #[.int .i64 x, .int .i64 y]) true).run Tryz.prog V = .ok (.tuple #[.agg #[.bool df, .bool dh, .slice da dn dc], .bool b]) V := by
      cases hr : t.R key with
      | none =>
        have q : (t.rv key) = none := rv_none.2 hr
        rw [q] at hm1
        rw [TMp_no hr] at hh hb
        have hm1 : m1 = none := hm1
        have hh : (⟨df, dh, da, dn, dc⟩ : Hd) = Hd.zero := hh
        have hb : b = false := hb
        rw [hm1, hb]
        have := look_nil2 (x, y) ft V
        rw [← hh] at this
        exact this
      | some r =>
        have q : (t.rv key) = some ⟨some r.mb, some r.sb⟩ := by unfold TK.rv; rw [hr]; rfl
        rw [q] at hm1
        have hm1 : m1 = some r.mb := hm1
        rw [TMp_at hr] at hh hb
        have e2 := (i.row key r hr).tm.look2 tagsK ft
        rw [← hh, ← hb] at e2
        rw [hm1]
        exact e2
    refine ⟨?_, by rw [hrb]; exact e1, e2⟩
    have := cell_blk i.blk 1 (v := .map (some t.rb)) rfl
    rw [htb, hrb]
    exact this
  obtain ⟨W, hW⟩ : ∃ W, W = (w.alloc (.cells #[.int .i64 x, .int .i64 y] 37)).alloc (.cells #[.int .i64 0, .int .i64 0, .bool false, .bool false, .slice none 0 0] 40) := ⟨_, rfl⟩
  have KZ : Kept (fun _ => False) w W := by rw [hW]; exact ((Kept.refl _ w).alloc _).alloc _
  have H : Hid (W.heap[w.heap.size]? = some (.cells #[.int .i64 x, .int .i64 y] 37 (0, 0)) ∧ W.heap[w.heap.size + 1]? = some (.cells #[.int .i64 0, .int .i64 0, .bool false, .bool false, .slice none 0 0] 40 (0, 0)) ∧ Kept (fun _ => False) w W) := by
    refine ⟨?_, ?_, KZ⟩
    · rw [hW]; exact two0 _ _ _
    · rw [hW]; exact two1 _ _ _
  have EW : Hid (W = (w.alloc (.cells #[.int .i64 x, .int .i64 y] 37)).alloc (.cells #[.int .i64 0, .int .i64 0, .bool false, .bool false, .slice none 0 0] 40)) := hW
  have HS : Hid (∀ V, Kept (fun _ => False) W V → V.cell? ⟨tb, 1, none⟩ = some (.map (some rb)) ∧ V.cell? ⟨w.heap.size, 0, none⟩ = some (.int .i64 x) ∧ V.cell? ⟨w.heap.size, 1, none⟩ = some (.int .i64 y) ∧ (Instr.lookup 83 (.map (some rb)) (.string key) false).run Tryz.prog V = .ok (.agg #[.map m1, .pointer p1]) V ∧ (Instr.lookup 86 (.map m1) (.agg #[.int .i64 x, .int .i64 y]) true).run Tryz.prog V = .ok (.tuple #[.agg #[.bool df, .bool dh, .slice da dn dc], .bool b]) V) := by
    intro V K
    obtain ⟨q1, q2, q3⟩ := L1.out V (H.out.2.2.and0 K)
    exact ⟨q1, cell_blk (K.get H.out.1 (fun z => z)) 0 rfl, cell_blk (K.get H.out.1 (fun z => z)) 1 rfl, q2, q3⟩
  rw [← htb]
  clear h hk ft hd htb hrb hm1 hp1 hb hh hW KZ L1
  go_enter Tryz.func15, Tryz.ntmps15
  go_upto_region 3 with fail
  rw [← EW.out]
  go_cut [8, 9] (fun u v wc => ∃ (X : Nat), u = .pointer (some ⟨X, 0, none⟩) ∧ v = .bool b ∧ Hid (GB w wc x y X df dh da dn dc))
  case first =>
    have FD := field89
    obtain ⟨q1, q2, q3, q4, q5⟩ := HS.out W (Kept.refl _ _)
    obtain ⟨_, _, _, q6, q7⟩ := HS.out W.drew (Kept.refl _ _).drew
    go_region_held3 (fun w' => w'.cell? ⟨tb, 1, none⟩ = some (.map (some rb)) ∧ w'.cell? ⟨w.heap.size, 0, none⟩ = some (.int .i64 x) ∧ w'.cell? ⟨w.heap.size, 1, none⟩ = some (.int .i64 y) ∧ (Instr.lookup 83 (.map (some rb)) (.string key) false).run Tryz.prog w' = .ok (.agg #[.map m1, .pointer p1]) w' ∧ (Instr.lookup 86 (.map m1) (.agg #[.int .i64 x, .int .i64 y]) true).run Tryz.prog w' = .ok (.tuple #[.agg #[.bool df, .bool dh, .slice da dn dc], .bool b]) w') (first | (refine HS.out _ ?_; (repeat (first | with_reducible exact Kept.refl _ _ | with_reducible refine Kept.drew ?_ | with_reducible refine Kept.alloc ?_ _ | refine Kept.setCell ?_ (fun z => absurd z (Nat.lt_irrefl _)) _)); done) | go_keep)
      (fail)
    all_goals go_wp2_with fail
    all_goals go_meet
    all_goals refine ⟨_, rfl, rfl, ?_⟩
    all_goals have KK : Kept (fun _ => False) W (W.alloc (.cells #[.bool df, .bool dh, .slice da dn dc] 94)).drew := ((Kept.refl _ W).alloc _).drew
    all_goals exact ⟨KK.get H.out.1 (fun z => z), KK.get H.out.2.1 (fun z => z), heap_alloc_new _ _, H.out.2.2.and0 KK⟩
  case rest =>
    obtain ⟨X, rfl, rfl, Q⟩ := hcut
    have l1 := block_lt Q.out.res
    have t0 := cell_blk Q.out.tag 0 (v := .int .i64 x) rfl
    have t1 := cell_blk Q.out.tag 1 (v := .int .i64 y) rfl
    have h0 := cell_blk Q.out.hold 0 (v := .bool df) rfl
    have h1 := cell_blk Q.out.hold 1 (v := .bool dh) rfl
    have h2 := cell_blk Q.out.hold 2 (v := .slice da dn dc) rfl
    cases b
    · have r0 := cell_blk Q.out.res 0 (v := .int .i64 0) rfl
      have r1 := cell_blk Q.out.res 1 (v := .int .i64 0) rfl
      have r2 := cell_blk Q.out.res 2 (v := .bool false) rfl
      have r3 := cell_blk Q.out.res 3 (v := .bool false) rfl
      have r4 := cell_blk Q.out.res 4 (v := .slice none 0 0) rfl
      have s0 := soft_blk Q.out.res 0
      have s1 := soft_blk Q.out.res 1
      have s2 := soft_blk Q.out.res 2
      have s3 := soft_blk Q.out.res 3
      have s4 := soft_blk Q.out.res 4
      go_wp2_with fail
      have KS : Kept (fun k => k = w.heap.size + 1) wc (((((wc.setCell ⟨w.heap.size + 1, 0, none⟩ (.int .i64 0)).setCell ⟨w.heap.size + 1, 1, none⟩ (.int .i64 0)).setCell ⟨w.heap.size + 1, 2, none⟩ (.bool false)).setCell ⟨w.heap.size + 1, 3, none⟩ (.bool false)).setCell ⟨w.heap.size + 1, 4, none⟩ (.slice none 0 0)) := (((((Kept.refl (fun k => k = w.heap.size + 1) wc).setCell (p := ⟨w.heap.size + 1, 0, none⟩) (fun _ => rfl) _).setCell (p := ⟨w.heap.size + 1, 1, none⟩) (fun _ => rfl) _).setCell (p := ⟨w.heap.size + 1, 2, none⟩) (fun _ => rfl) _).setCell (p := ⟨w.heap.size + 1, 3, none⟩) (fun _ => rfl) _).setCell (p := ⟨w.heap.size + 1, 4, none⟩) (fun _ => rfl) _
      refine bodyPost_ret (results_get rfl _ _ _ #[.int .i64 0, .int .i64 0, .bool false, .bool false, .slice none 0 0] rfl (.bool false) rfl rfl (heap_set (heap_set (heap_set (heap_set (heap_set Q.out.res 0 _) 1 _) 2 _) 3 _) 4 _)) rfl (GetAns.mk none 0 0 (RD.out.2 (by first | trivial | rfl)) (Reads.nil _) (Q.out.kept.trans KS (fun j hj z => by have z : j = w.heap.size + 1 := z; omega)))
    · obtain ⟨rl, dl, gl⟩ := RD.out.1 rfl
      have BY : Hid (∀ c ∈ dat, c < 256) := rl.bytes
      have GL : Hid (getR x y ((TMp t key (x, y)).map fun hd => (hd.fin, hd.has, dat)) = (x, y, df, dh, dat, true)) := gl
      have RE : Hid (Calls Tryz.prog 37 #[.agg #[.bool df, .bool dh, .slice da dn dc], .agg #[.int .i64 x, .int .i64 y]] wc fun o w' => ∃ p c', o = .returned (.agg #[.int .i64 x, .int .i64 y, .bool df, .bool dh, .slice p dn c']) ∧ w'.ownsRow wc.heap.size 5 1 (.slice p dn c') dn (cellsOf dat) ∧ Kept (fun _ => False) wc w') := entry df dh da dn dc x y dat wc (rl.kept Q.out.kept (fun _ _ z => z)) dl
      have DL : Hid (dn ≤ 140737488355328) := dl
      clear rl dl gl
      go_wp2_with fail
      refine RE.out.mono ?_
      rintro o w2 ⟨p, c', rfl, ow, K2⟩
      have Q2 : Hid (GB w w2 x y X df dh da dn dc ∧ w2.ownsRow wc.heap.size 5 1 (.slice p dn c') dn (cellsOf dat)) := ⟨⟨K2.get Q.out.tag (fun z => z), K2.get Q.out.res (fun z => z), K2.get Q.out.hold (fun z => z), Q.out.kept.and0 K2⟩, ow⟩
      clear ow K2 t0 t1 h0 h1 h2
      have r0 := cell_blk Q2.out.1.res 0 (v := .int .i64 0) rfl
      have r1 := cell_blk Q2.out.1.res 1 (v := .int .i64 0) rfl
      have r2 := cell_blk Q2.out.1.res 2 (v := .bool false) rfl
      have r3 := cell_blk Q2.out.1.res 3 (v := .bool false) rfl
      have r4 := cell_blk Q2.out.1.res 4 (v := .slice none 0 0) rfl
      have s0 := soft_blk Q2.out.1.res 0
      have s1 := soft_blk Q2.out.1.res 1
      have s2 := soft_blk Q2.out.1.res 2
      have s3 := soft_blk Q2.out.1.res 3
      have s4 := soft_blk Q2.out.1.res 4
      go_wp2_with fail
      have KS : Kept (fun k => k = w.heap.size + 1) w2 (((((w2.setCell ⟨w.heap.size + 1, 0, none⟩ (.int .i64 x)).setCell ⟨w.heap.size + 1, 1, none⟩ (.int .i64 y)).setCell ⟨w.heap.size + 1, 2, none⟩ (.bool df)).setCell ⟨w.heap.size + 1, 3, none⟩ (.bool dh)).setCell ⟨w.heap.size + 1, 4, none⟩ (.slice p dn c')) := (((((Kept.refl (fun k => k = w.heap.size + 1) w2).setCell (p := ⟨w.heap.size + 1, 0, none⟩) (fun _ => rfl) _).setCell (p := ⟨w.heap.size + 1, 1, none⟩) (fun _ => rfl) _).setCell (p := ⟨w.heap.size + 1, 2, none⟩) (fun _ => rfl) _).setCell (p := ⟨w.heap.size + 1, 3, none⟩) (fun _ => rfl) _).setCell (p := ⟨w.heap.size + 1, 4, none⟩) (fun _ => rfl) _
      refine bodyPost_ret (results_get rfl _ _ _ #[.int .i64 x, .int .i64 y, .bool df, .bool dh, .slice p dn c'] rfl (.bool true) rfl rfl (heap_set (heap_set (heap_set (heap_set (heap_set Q2.out.1.res 0 _) 1 _) 2 _) 3 _) 4 _)) rfl (GetAns.mk p dn c' GL.out ?_ (Q2.out.1.kept.trans KS (fun j hj z => by have z : j = w.heap.size + 1 := z; omega)))
      have ow9 := KS.owns Q2.out.2 (fun k hk z => by
        have z : k = w.heap.size + 1 := z
        have q := (own_lt Q2.out.2 k (by rw [← hk]; exact (blockOf_own ..).symm)).1
        omega)
      obtain ⟨a9, c9, ev9, rd9, _⟩ := owns_reads ow9 BY.out
      injection ev9 with z1 z2 z3
      subst z1
      subst z3
      exact rd9
set_option maxRecDepth 100000 in
set_option maxHeartbeats 8000000 in
/-- Get of the document's table. -/
theorem rGet (b0 tb : Nat) (delta : Int) (p : Option Addr) (n c : Nat) (L : List Ut) (vs : List Uv) (key : ByteArray) (x y : Int) (w : World) (h : RTab b0 w tb delta p n c L vs) (one : OneV vs) (hd : ∀ v ∈ vs, v.2.2.2.2.length ≤ 140737488355328) : Calls Tryz.prog 48 #[.pointer (some ⟨tb, 0, none⟩), .string key, .agg #[.int .i64 x, .int .i64 y]] w fun o w' => GetAns o w w' (getR x y (stV vs key (x, y))) := by
  obtain ⟨W, hW⟩ : ∃ W, W = (w.alloc (.cells #[.int .i64 x, .int .i64 y] 37)).alloc (.cells #[.int .i64 0, .int .i64 0, .bool false, .bool false, .slice none 0 0] 40) := ⟨_, rfl⟩
  have KZ : Kept (fun _ => False) w W := by rw [hW]; exact ((Kept.refl _ w).alloc _).alloc _
  have H : Hid (RTab b0 w tb delta p n c L vs ∧ W.heap[w.heap.size]? = some (.cells #[.int .i64 x, .int .i64 y] 37 (0, 0)) ∧ W.heap[w.heap.size + 1]? = some (.cells #[.int .i64 0, .int .i64 0, .bool false, .bool false, .slice none 0 0] 40 (0, 0)) ∧ Kept (fun _ => False) w W ∧ OneV vs ∧ ∀ v ∈ vs, v.2.2.2.2.length ≤ 140737488355328) := by
    refine ⟨h, ?_, ?_, KZ, one, hd⟩
    · rw [hW]; exact two0 _ _ _
    · rw [hW]; exact two1 _ _ _
  have EW : Hid (W = (w.alloc (.cells #[.int .i64 x, .int .i64 y] 37)).alloc (.cells #[.int .i64 0, .int .i64 0, .bool false, .bool false, .slice none 0 0] 40)) := hW
  obtain ⟨pv, hpv⟩ : ∃ pv, pv = plc vs key (x, y) 0 := ⟨_, rfl⟩
  have RP : Hid (∀ V, Kept (fun _ => False) w V → Calls Tryz.prog 75 #[.pointer (some ⟨tb, 0, none⟩), .string key, .agg #[.int .i64 x, .int .i64 y]] V fun o w' => o = .returned (.int .i64 pv) ∧ Kept (fun _ => False) V w') := by rw [hpv]; exact fun V K => rPlace b0 tb delta p n c L vs key x y V (h.k0 K)
  have HP : Hid (pv = plc vs key (x, y) 0) := hpv
  clear h KZ hW one hd hpv
  go_enter Tryz.func48, Tryz.ntmps48
  go_upto_region 1 with fail
  rw [← EW.out]
  have t0 := cell_blk H.out.2.1 0 (v := .int .i64 x) rfl
  have t1 := cell_blk H.out.2.1 1 (v := .int .i64 y) rfl
  go_wp2_with fail
  refine (RP.out W H.out.2.2.2.1).mono ?_
  rintro o w2 ⟨rfl, K2'⟩
  have P2 : Hid (Kept (fun _ => False) w w2 ∧ w2.heap[w.heap.size]? = some (.cells #[.int .i64 x, .int .i64 y] 37 (0, 0)) ∧ w2.heap[w.heap.size + 1]? = some (.cells #[.int .i64 0, .int .i64 0, .bool false, .bool false, .slice none 0 0] 40 (0, 0)) ∧ RTab b0 w2 tb delta p n c L vs) := ⟨H.out.2.2.2.1.and0 K2', K2'.get H.out.2.1 (fun z => z), K2'.get H.out.2.2.1 (fun z => z), H.out.1.k0 (H.out.2.2.2.1.and0 K2')⟩
  clear K2' t0 t1
  have l1 := block_lt P2.out.2.2.1
  by_cases hneg : pv < 0
  · have E : Hid (getR x y (stV vs key (x, y)) = (0, 0, false, false, [], false)) := by
      rw [st_none (plc_none vs key (x, y) 0 (by rw [← HP.out]; exact hneg))]
      rfl
    have r0 := cell_blk P2.out.2.2.1 0 (v := .int .i64 0) rfl
    have r1 := cell_blk P2.out.2.2.1 1 (v := .int .i64 0) rfl
    have r2 := cell_blk P2.out.2.2.1 2 (v := .bool false) rfl
    have r3 := cell_blk P2.out.2.2.1 3 (v := .bool false) rfl
    have r4 := cell_blk P2.out.2.2.1 4 (v := .slice none 0 0) rfl
    have s0 := soft_blk P2.out.2.2.1 0
    have s1 := soft_blk P2.out.2.2.1 1
    have s2 := soft_blk P2.out.2.2.1 2
    have s3 := soft_blk P2.out.2.2.1 3
    have s4 := soft_blk P2.out.2.2.1 4
    go_wp2_with fail
    have KS : Kept (fun k => k = w.heap.size + 1) w2 (((((w2.setCell ⟨w.heap.size + 1, 0, none⟩ (.int .i64 0)).setCell ⟨w.heap.size + 1, 1, none⟩ (.int .i64 0)).setCell ⟨w.heap.size + 1, 2, none⟩ (.bool false)).setCell ⟨w.heap.size + 1, 3, none⟩ (.bool false)).setCell ⟨w.heap.size + 1, 4, none⟩ (.slice none 0 0)) := (((((Kept.refl (fun k => k = w.heap.size + 1) w2).setCell (p := ⟨w.heap.size + 1, 0, none⟩) (fun _ => rfl) _).setCell (p := ⟨w.heap.size + 1, 1, none⟩) (fun _ => rfl) _).setCell (p := ⟨w.heap.size + 1, 2, none⟩) (fun _ => rfl) _).setCell (p := ⟨w.heap.size + 1, 3, none⟩) (fun _ => rfl) _).setCell (p := ⟨w.heap.size + 1, 4, none⟩) (fun _ => rfl) _
    refine bodyPost_ret (results_get rfl _ _ _ #[.int .i64 0, .int .i64 0, .bool false, .bool false, .slice none 0 0] rfl (.bool false) rfl rfl (heap_set (heap_set (heap_set (heap_set (heap_set P2.out.2.2.1 0 _) 1 _) 2 _) 3 _) 4 _)) rfl (GetAns.mk none 0 0 E.out (Reads.nil _) (P2.out.1.trans KS (fun j hj z => by have z : j = w.heap.size + 1 := z; omega)))
  · obtain ⟨i, hi, hpi, hat⟩ := plc_spec vs key (x, y) 0 (by rw [← HP.out]; exact hneg)
    rw [Nat.zero_add] at hpi
    have hpv : pv = (i : Int) := by rw [HP.out, hpi]
    have hiL : i < n := by rw [← P2.out.2.2.2.vlen]; exact hi
    obtain ⟨g, k, u, v, f, hh, ra, rm, rc, eg, hv, e0, e1, e2, e3, e4, e5⟩ := own_rw P2.out.2.2.2.row P2.out.2.2.2.len hiL
    obtain ⟨hi2, uv⟩ := along_at P2.out.2.2.2.rd hv
    obtain ⟨lv, hlv⟩ : ∃ lv, lv = vs[i].2.2.2.2 := ⟨_, rfl⟩
    have E : Hid (getR x y (stV vs key (x, y)) = (x, y, f, hh, lv, true) ∧ (u, v) = (x, y) ∧ Reads w2 ra rm rc lv ∧ rm ≤ 140737488355328) := by
      obtain ⟨q1, q2⟩ := (isAt_iff key (x, y) vs[i]).1 hat
      have q3 : vs[i].2.2.1 = f := uv.ent.fin.symm
      have q4 : vs[i].2.2.2.1 = hh := uv.ent.has.symm
      have q5 : Reads w2 ra rm rc vs[i].2.2.2.2 := uv.ent.data
      have q6 := H.out.2.2.2.2.2 _ (List.getElem_mem hi)
      have q7 := q5.length
      rw [plc_at1 H.out.2.2.2.2.1 hi hat]
      refine ⟨?_, uv.ent.tag.trans q2, by rw [hlv]; exact q5, by omega⟩
      show (x, y, vs[i].2.2.1, vs[i].2.2.2.1, vs[i].2.2.2.2, true) = _
      rw [q3, q4, hlv]
    have eu : u = x := congrArg Prod.fst E.out.2.1
    have ev : v = y := congrArg Prod.snd E.out.2.1
    subst eu
    subst ev
    subst hpv
    subst eg
    have rmm := own_room P2.out.2.2.2.row
    unfold maxLen at rmm
    obtain ⟨rm1, rm2⟩ := rmm
    have i1 : (i : Int) < (n : Int) := by omega
    have i0 : (0 : Int) ≤ (i : Int) := by omega
    have d1 := cell_blk P2.out.2.2.2.blk 1 (v := .slice (some ⟨g, 0, none⟩) n c) rfl
    have t0 := cell_blk P2.out.2.1 0 (v := .int .i64 u) rfl
    have t1 := cell_blk P2.out.2.1 1 (v := .int .i64 v) rfl
    clear hat hpi hv uv hi hi2 hneg hlv
    have r0 := cell_blk P2.out.2.2.1 0 (v := .int .i64 0) rfl
    have r1 := cell_blk P2.out.2.2.1 1 (v := .int .i64 0) rfl
    have r2 := cell_blk P2.out.2.2.1 2 (v := .bool false) rfl
    have r3 := cell_blk P2.out.2.2.1 3 (v := .bool false) rfl
    have r4 := cell_blk P2.out.2.2.1 4 (v := .slice none 0 0) rfl
    have s0 := soft_blk P2.out.2.2.1 0
    have s1 := soft_blk P2.out.2.2.1 1
    have s2 := soft_blk P2.out.2.2.1 2
    have s3 := soft_blk P2.out.2.2.1 3
    have s4 := soft_blk P2.out.2.2.1 4
    go_upto_region 3 with fail
    have SS : Hid (∀ V, Kept (fun k => k = w.heap.size + 1) w2 V → V.cell? ⟨w.heap.size, 0, none⟩ = some (.int .i64 u) ∧ V.cell? ⟨w.heap.size, 1, none⟩ = some (.int .i64 v) ∧ V.cell? ⟨tb, 1, none⟩ = some (.slice (some ⟨g, 0, none⟩) n c) ∧ V.cell? ⟨g, i * 6 + 1, none⟩ = some (.int .i64 u) ∧ V.cell? ⟨g, i * 6 + 2, none⟩ = some (.int .i64 v) ∧ V.cell? ⟨g, i * 6 + 3, none⟩ = some (.bool f) ∧ V.cell? ⟨g, i * 6 + 4, none⟩ = some (.bool hh) ∧ V.cell? ⟨g, i * 6 + 5, none⟩ = some (.slice ra rm rc)) := by
      intro V K
      have n1 : ¬ tb = w.heap.size + 1 := fun z => by
        have hb := P2.out.2.2.2.blk
        rw [z, P2.out.2.2.1] at hb
        simp at hb
      have n2 : ¬ g = w.heap.size + 1 := fun z => by
        obtain ⟨cg, hb⟩ := own_ty P2.out.2.2.2.row (k := g) rfl
        rw [z, P2.out.2.2.1] at hb
        simp at hb
      exact ⟨K.cell t0 (by show ¬ w.heap.size = _; omega), K.cell t1 (by show ¬ w.heap.size = _; omega), K.cell d1 n1, K.cell e1 n2, K.cell e2 n2, K.cell e3 n2, K.cell e4 n2, K.cell e5 n2⟩
    go_region_held3 (fun V => V.cell? ⟨w.heap.size, 0, none⟩ = some (.int .i64 u) ∧ V.cell? ⟨w.heap.size, 1, none⟩ = some (.int .i64 v) ∧ V.cell? ⟨tb, 1, none⟩ = some (.slice (some ⟨g, 0, none⟩) n c) ∧ V.cell? ⟨g, i * 6 + 1, none⟩ = some (.int .i64 u) ∧ V.cell? ⟨g, i * 6 + 2, none⟩ = some (.int .i64 v) ∧ V.cell? ⟨g, i * 6 + 3, none⟩ = some (.bool f) ∧ V.cell? ⟨g, i * 6 + 4, none⟩ = some (.bool hh) ∧ V.cell? ⟨g, i * 6 + 5, none⟩ = some (.slice ra rm rc)) (first | with_reducible exact SS5.out | (refine SS.out _ ?_; (repeat (first | with_reducible exact K5m.out | with_reducible exact K4m.out | with_reducible exact Kept.refl _ _ | with_reducible refine Kept.drew ?_ | refine Kept.setCell ?_ (fun _ => rfl) _)); done) | go_keep)
      (first
        | (go_at_call 46; refine (rCopied u v f hh ra rm rc lv _ (E.out.2.2.1.kept K4.out (fun _ _ z => z)) E.out.2.2.2).mono ?_; rintro o w5 ⟨pd, cd, rfl, Q5⟩
           have K5 : Hid (Kept (fun _ => False) w2 w5) := K4.out.and0 Q5.out.2.2
           have K5m : Hid (Kept (fun k => k = w.heap.size + 1) w2 w5) := K5.out.mono (fun _ _ z => z.elim)
           have SS5 : Hid ((((((w5.setCell ⟨w.heap.size + 1, 0, none⟩ (.int .i64 u)).setCell ⟨w.heap.size + 1, 1, none⟩ (.int .i64 v)).setCell ⟨w.heap.size + 1, 2, none⟩ (.bool f)).setCell ⟨w.heap.size + 1, 3, none⟩ (.bool hh)).setCell ⟨w.heap.size + 1, 4, none⟩ (.slice pd rm cd)).cell? ⟨w.heap.size, 0, none⟩ = some (.int .i64 u) ∧ (((((w5.setCell ⟨w.heap.size + 1, 0, none⟩ (.int .i64 u)).setCell ⟨w.heap.size + 1, 1, none⟩ (.int .i64 v)).setCell ⟨w.heap.size + 1, 2, none⟩ (.bool f)).setCell ⟨w.heap.size + 1, 3, none⟩ (.bool hh)).setCell ⟨w.heap.size + 1, 4, none⟩ (.slice pd rm cd)).cell? ⟨w.heap.size, 1, none⟩ = some (.int .i64 v) ∧ (((((w5.setCell ⟨w.heap.size + 1, 0, none⟩ (.int .i64 u)).setCell ⟨w.heap.size + 1, 1, none⟩ (.int .i64 v)).setCell ⟨w.heap.size + 1, 2, none⟩ (.bool f)).setCell ⟨w.heap.size + 1, 3, none⟩ (.bool hh)).setCell ⟨w.heap.size + 1, 4, none⟩ (.slice pd rm cd)).cell? ⟨tb, 1, none⟩ = some (.slice (some ⟨g, 0, none⟩) n c) ∧ (((((w5.setCell ⟨w.heap.size + 1, 0, none⟩ (.int .i64 u)).setCell ⟨w.heap.size + 1, 1, none⟩ (.int .i64 v)).setCell ⟨w.heap.size + 1, 2, none⟩ (.bool f)).setCell ⟨w.heap.size + 1, 3, none⟩ (.bool hh)).setCell ⟨w.heap.size + 1, 4, none⟩ (.slice pd rm cd)).cell? ⟨g, i * 6 + 1, none⟩ = some (.int .i64 u) ∧ (((((w5.setCell ⟨w.heap.size + 1, 0, none⟩ (.int .i64 u)).setCell ⟨w.heap.size + 1, 1, none⟩ (.int .i64 v)).setCell ⟨w.heap.size + 1, 2, none⟩ (.bool f)).setCell ⟨w.heap.size + 1, 3, none⟩ (.bool hh)).setCell ⟨w.heap.size + 1, 4, none⟩ (.slice pd rm cd)).cell? ⟨g, i * 6 + 2, none⟩ = some (.int .i64 v) ∧ (((((w5.setCell ⟨w.heap.size + 1, 0, none⟩ (.int .i64 u)).setCell ⟨w.heap.size + 1, 1, none⟩ (.int .i64 v)).setCell ⟨w.heap.size + 1, 2, none⟩ (.bool f)).setCell ⟨w.heap.size + 1, 3, none⟩ (.bool hh)).setCell ⟨w.heap.size + 1, 4, none⟩ (.slice pd rm cd)).cell? ⟨g, i * 6 + 3, none⟩ = some (.bool f) ∧ (((((w5.setCell ⟨w.heap.size + 1, 0, none⟩ (.int .i64 u)).setCell ⟨w.heap.size + 1, 1, none⟩ (.int .i64 v)).setCell ⟨w.heap.size + 1, 2, none⟩ (.bool f)).setCell ⟨w.heap.size + 1, 3, none⟩ (.bool hh)).setCell ⟨w.heap.size + 1, 4, none⟩ (.slice pd rm cd)).cell? ⟨g, i * 6 + 4, none⟩ = some (.bool hh) ∧ (((((w5.setCell ⟨w.heap.size + 1, 0, none⟩ (.int .i64 u)).setCell ⟨w.heap.size + 1, 1, none⟩ (.int .i64 v)).setCell ⟨w.heap.size + 1, 2, none⟩ (.bool f)).setCell ⟨w.heap.size + 1, 3, none⟩ (.bool hh)).setCell ⟨w.heap.size + 1, 4, none⟩ (.slice pd rm cd)).cell? ⟨g, i * 6 + 5, none⟩ = some (.slice ra rm rc)) := SS.out _ (K5m.out.trans ((((((Kept.refl (fun k => k = w.heap.size + 1) w5).setCell (p := ⟨w.heap.size + 1, 0, none⟩) (fun _ => rfl) _).setCell (p := ⟨w.heap.size + 1, 1, none⟩) (fun _ => rfl) _).setCell (p := ⟨w.heap.size + 1, 2, none⟩) (fun _ => rfl) _).setCell (p := ⟨w.heap.size + 1, 3, none⟩) (fun _ => rfl) _).setCell (p := ⟨w.heap.size + 1, 4, none⟩) (fun _ => rfl) _) (fun _ _ z => z))
           have B5 : Hid (w5.heap[w.heap.size + 1]? = some (.cells #[.int .i64 0, .int .i64 0, .bool false, .bool false, .slice none 0 0] 40 (0, 0))) := K5.out.get P2.out.2.2.1 (fun z => z)
           have r0 := cell_blk B5.out 0 (v := .int .i64 0) rfl
           have r1 := cell_blk B5.out 1 (v := .int .i64 0) rfl
           have r2 := cell_blk B5.out 2 (v := .bool false) rfl
           have r3 := cell_blk B5.out 3 (v := .bool false) rfl
           have r4 := cell_blk B5.out 4 (v := .slice none 0 0) rfl
           have s0 := soft_blk B5.out 0
           have s1 := soft_blk B5.out 1
           have s2 := soft_blk B5.out 2
           have s3 := soft_blk B5.out 3
           have s4 := soft_blk B5.out 4)
        | (go_at_call 75; refine (RP.out w2.drew (P2.out.1.and0 (Kept.refl _ _).drew)).mono ?_; rintro o w4 ⟨rfl, K4'⟩
           have K4 : Hid (Kept (fun _ => False) w2 w4) := ((Kept.refl _ _).drew).and0 K4'
           have K4m : Hid (Kept (fun k => k = w.heap.size + 1) w2 w4) := K4.out.mono (fun _ _ z => z.elim)
           clear K4')
        | fail)
    all_goals go_wp2_with fail
    all_goals have KS : Kept (fun k => k = w.heap.size + 1) w5 (((((w5.setCell ⟨w.heap.size + 1, 0, none⟩ (.int .i64 u)).setCell ⟨w.heap.size + 1, 1, none⟩ (.int .i64 v)).setCell ⟨w.heap.size + 1, 2, none⟩ (.bool f)).setCell ⟨w.heap.size + 1, 3, none⟩ (.bool hh)).setCell ⟨w.heap.size + 1, 4, none⟩ (.slice pd rm cd)) := (((((Kept.refl (fun k => k = w.heap.size + 1) w5).setCell (p := ⟨w.heap.size + 1, 0, none⟩) (fun _ => rfl) _).setCell (p := ⟨w.heap.size + 1, 1, none⟩) (fun _ => rfl) _).setCell (p := ⟨w.heap.size + 1, 2, none⟩) (fun _ => rfl) _).setCell (p := ⟨w.heap.size + 1, 3, none⟩) (fun _ => rfl) _).setCell (p := ⟨w.heap.size + 1, 4, none⟩) (fun _ => rfl) _
    all_goals refine bodyPost_ret (results_get rfl _ _ _ #[.int .i64 u, .int .i64 v, .bool f, .bool hh, .slice pd rm cd] rfl (.bool true) rfl rfl (heap_set (heap_set (heap_set (heap_set (heap_set B5.out 0 _) 1 _) 2 _) 3 _) 4 _)) rfl (GetAns.mk pd rm cd E.out.1 ?_ ((P2.out.1.and0 K5.out).trans KS (fun j hj z => by have z : j = w.heap.size + 1 := z; omega)))
    all_goals refine Q5.out.1.kept KS (fun q hq z => ?_)
    all_goals have z : q.block = w.heap.size + 1 := z
    all_goals obtain ⟨_, cs, hc⟩ := Q5.out.2.1 q.block (by rw [hq]; rfl)
    all_goals rw [z, B5.out] at hc
    all_goals simp at hc
end Go.Proofs.YtojepeefphbekaaGreat
