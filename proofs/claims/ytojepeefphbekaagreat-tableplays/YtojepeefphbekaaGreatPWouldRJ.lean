import Derived.Test.YtojepeefphbekaaGreatEntsO
import Derived.Test.YtojepeefphbekaaGreatTCopyJ
import Derived.Test.YtojepeefphbekaaGreatAppl
import Derived.Deep.CutRange
import Derived.Test.YtojepeefphbekaaGreatPFragRJ
import Derived.Test.YtojepeefphbekaaGreatPMayJ
namespace Go.Proofs.YtojepeefphbekaaGreat
open Go.RowKit 

theorem results_get {fn : Func} {p u : Tmp} (h : fn.results = #[.cell p 40, .tmp u]) (tmps : Array Value) (w : World) (b : Nat) (cs : Array Value) (hz : cs.size = 5) (v : Value) (hp : tmps.getD p undef = .pointer (some ⟨b, 0, none⟩)) (hu : tmps.getD u undef = v) (hb : w.heap[b]? = some (.cells cs 40 (0, 0))) : (results fn tmps).run Tryz.prog w = .ok (.tuple #[.agg cs, v]) w := by
  rw [results_cell_tmp h, hp]
  simp [asAddr, run_loadVar_row w b 40 40 cs (0, 0) _ hb Tryz.underlying40 rfl (by rw [Tryz.info40, hz]), Result.andThen]
  simpa using hu
theorem field89 (a : Option Nat) (b : Option Addr) (w : World) : (Instr.field 89 (.agg #[.map a, .pointer b]) 0).run Tryz.prog w = .ok (.map a) w := by kernel_rfl
/-- The boxes of Get. -/
structure GB (w W : World) (x y : Int) (X : Nat) (df dh : Bool) (da : Option Addr) (dn dc : Nat) : Prop where
  tag : W.heap[w.heap.size]? = some (.cells #[.int .i64 x, .int .i64 y] 37 (0, 0))
  res : W.heap[w.heap.size + 1]? = some (.cells #[.int .i64 0, .int .i64 0, .bool false, .bool false, .slice none 0 0] 40 (0, 0))
  hold : W.heap[X]? = some (.cells #[.bool df, .bool dh, .slice da dn dc] 94 (0, 0))
  kept : Kept (fun _ => False) w W
set_option maxRecDepth 100000 in
set_option maxHeartbeats 4000000 in
/-- Get, of a key that has a row. -/
theorem tGetO (nn : Nat) (t : TK) (key : ByteArray) (r : RK) (x y : Int) (w : World) (h : IsT w nn t) (hk : key.size ≤ maxLen) (hr : t.R key = some r) (ft : TFit (x, y)) (hd : DataOK w r.M) : Calls Tryz.prog 15 #[.pointer (some ⟨t.tb, 0, none⟩), .string key, .agg #[.int .i64 x, .int .i64 y]] w fun o w' => ∃ x' y' f g p n c b, o = .returned (.tuple #[.agg #[.int .i64 x', .int .i64 y', .bool f, .bool g, .slice p n c], .bool b]) ∧ Hid (n ≤ 140737488355328 ∧ (∃ xs, w'.ownsRow w.heap.size 5 1 (.slice p n c) n xs) ∧ Kept (fun _ => False) w w') := by
  obtain ⟨tb, htb⟩ : ∃ tb, tb = t.tb := ⟨_, rfl⟩
  obtain ⟨rb, hrb⟩ : ∃ rb, rb = t.rb := ⟨_, rfl⟩
  obtain ⟨mb, hmb⟩ : ∃ mb, mb = r.mb := ⟨_, rfl⟩
  obtain ⟨sb, hsb⟩ : ∃ sb, sb = r.sb := ⟨_, rfl⟩
  obtain ⟨b, hb⟩ : ∃ b, b = (r.M (x, y)).isSome := ⟨_, rfl⟩
  obtain ⟨⟨df, dh, da, dn, dc⟩, hh⟩ : ∃ hd : Hd, hd = (r.M (x, y)).getD Hd.zero := ⟨_, rfl⟩
  have RD : Hid (b = true → ∃ l, Reads w da dn dc l ∧ dn ≤ 140737488355328) := by
    intro z
    rw [z] at hb
    cases hm : r.M (x, y) with
    | none => rw [hm] at hb; cases hb
    | some k =>
      rw [hm] at hh
      have := hd _ k hm
      have hh : (⟨df, dh, da, dn, dc⟩ : Hd) = k := hh
      rw [← hh] at this
      exact this
  have L1 : Hid (∀ V, Kept (fun _ => False) w V → V.cell? ⟨tb, 1, none⟩ = some (.map (some rb)) ∧ (Instr.lookup 83 (.map (some rb)) (.string key) false).run Tryz.prog V = .ok (.agg #[.map (some mb), .pointer (some ⟨sb, 0, none⟩)]) V ∧ (Instr.lookup 86 (.map (some mb)) (.agg #[.int .i64 x, .int .i64 y]) true).run Tryz.prog V = .ok (.tuple #[.agg #[.bool df, .bool dh, .slice da dn dc], .bool b]) V) := by
    intro V K
    have i := h.k0 K
    have e1 := i.rows.look rowsK hk
    have e3 : RV.val ((t.rv key).getD RV.zero) = .agg #[.map (some mb), .pointer (some ⟨sb, 0, none⟩)] := by
      unfold TK.rv
      rw [hr, hmb, hsb]
      rfl
    rw [e3] at e1
    have e2 := (i.row key r hr).tm.look2 tagsK ft
    rw [← hh, ← hb] at e2
    refine ⟨?_, by rw [hrb]; exact e1, by rw [hmb]; exact e2⟩
    have := cell_blk i.blk 1 (v := .map (some t.rb)) rfl
    rw [htb, hrb]
    exact this
  obtain ⟨W, hW⟩ : ∃ W, W = (w.alloc (.cells #[.int .i64 x, .int .i64 y] 37)).alloc (.cells #[.int .i64 0, .int .i64 0, .bool false, .bool false, .slice none 0 0] 40) := ⟨_, rfl⟩
  have KZ : Kept (fun _ => False) w W := by rw [hW]; exact ((Kept.refl _ w).alloc _).alloc _
  have H : Hid (W.heap[w.heap.size]? = some (.cells #[.int .i64 x, .int .i64 y] 37 (0, 0)) ∧ W.heap[w.heap.size + 1]? = some (.cells #[.int .i64 0, .int .i64 0, .bool false, .bool false, .slice none 0 0] 40 (0, 0)) ∧ Kept (fun _ => False) w W) := by
    refine ⟨?_, ?_, KZ⟩
    · rw [hW]; exact two0 _ _ _
    · rw [hW]; exact two1 _ _ _
  have EW : Hid (W = (w.alloc (.cells #[.int .i64 x, .int .i64 y] 37)).alloc (.cells #[.int .i64 0, .int .i64 0, .bool false, .bool false, .slice none 0 0] 40)) := hW
  have HS : Hid (∀ V, Kept (fun _ => False) W V → V.cell? ⟨tb, 1, none⟩ = some (.map (some rb)) ∧ V.cell? ⟨w.heap.size, 0, none⟩ = some (.int .i64 x) ∧ V.cell? ⟨w.heap.size, 1, none⟩ = some (.int .i64 y) ∧ (Instr.lookup 83 (.map (some rb)) (.string key) false).run Tryz.prog V = .ok (.agg #[.map (some mb), .pointer (some ⟨sb, 0, none⟩)]) V ∧ (Instr.lookup 86 (.map (some mb)) (.agg #[.int .i64 x, .int .i64 y]) true).run Tryz.prog V = .ok (.tuple #[.agg #[.bool df, .bool dh, .slice da dn dc], .bool b]) V) := by
    intro V K
    obtain ⟨q1, q2, q3⟩ := L1.out V (H.out.2.2.and0 K)
    exact ⟨q1, cell_blk (K.get H.out.1 (fun z => z)) 0 rfl, cell_blk (K.get H.out.1 (fun z => z)) 1 rfl, q2, q3⟩
  rw [← htb]
  clear h hk hr ft hd htb hrb hmb hsb hb hh hW KZ L1
  go_enter Tryz.func15, Tryz.ntmps15
  go_upto_region 3 with fail
  rw [← EW.out]
  go_cut [8, 9] (fun u v wc => ∃ (X : Nat), u = .pointer (some ⟨X, 0, none⟩) ∧ v = .bool b ∧ Hid (GB w wc x y X df dh da dn dc))
  case first =>
    have FD := field89
    obtain ⟨q1, q2, q3, q4, q5⟩ := HS.out W (Kept.refl _ _)
    obtain ⟨_, _, _, q6, q7⟩ := HS.out W.drew (Kept.refl _ _).drew
    go_region_held3 (fun w' => w'.cell? ⟨tb, 1, none⟩ = some (.map (some rb)) ∧ w'.cell? ⟨w.heap.size, 0, none⟩ = some (.int .i64 x) ∧ w'.cell? ⟨w.heap.size, 1, none⟩ = some (.int .i64 y) ∧ (Instr.lookup 83 (.map (some rb)) (.string key) false).run Tryz.prog w' = .ok (.agg #[.map (some mb), .pointer (some ⟨sb, 0, none⟩)]) w' ∧ (Instr.lookup 86 (.map (some mb)) (.agg #[.int .i64 x, .int .i64 y]) true).run Tryz.prog w' = .ok (.tuple #[.agg #[.bool df, .bool dh, .slice da dn dc], .bool b]) w') (first | (refine HS.out _ ?_; (repeat (first | with_reducible exact Kept.refl _ _ | with_reducible refine Kept.drew ?_ | with_reducible refine Kept.alloc ?_ _ | refine Kept.setCell ?_ (fun z => absurd z (Nat.lt_irrefl _)) _)); done) | go_keep)
      (fail)
    all_goals go_wp2_with fail
    all_goals go_meet
    all_goals refine ⟨_, rfl, rfl, ?_⟩
    all_goals have KK : Kept (fun _ => False) W (W.alloc (.cells #[.bool df, .bool dh, .slice da dn dc] 94)).drew := ((Kept.refl _ W).alloc _).drew
    all_goals exact ⟨KK.get H.out.1 (fun z => z), KK.get H.out.2.1 (fun z => z), heap_alloc_new _ _, H.out.2.2.and0 KK⟩
  case rest =>
    obtain ⟨X, rfl, rfl, Q⟩ := hcut
    have l1 := block_lt Q.out.res
    have t0 := cell_blk Q.out.tag 0 (v := .int .i64 x) rfl
    have t1 := cell_blk Q.out.tag 1 (v := .int .i64 y) rfl
    have h0 := cell_blk Q.out.hold 0 (v := .bool df) rfl
    have h1 := cell_blk Q.out.hold 1 (v := .bool dh) rfl
    have h2 := cell_blk Q.out.hold 2 (v := .slice da dn dc) rfl
    cases b
    · have r0 := cell_blk Q.out.res 0 (v := .int .i64 0) rfl
      have r1 := cell_blk Q.out.res 1 (v := .int .i64 0) rfl
      have r2 := cell_blk Q.out.res 2 (v := .bool false) rfl
      have r3 := cell_blk Q.out.res 3 (v := .bool false) rfl
      have r4 := cell_blk Q.out.res 4 (v := .slice none 0 0) rfl
      have s0 := soft_blk Q.out.res 0
      have s1 := soft_blk Q.out.res 1
      have s2 := soft_blk Q.out.res 2
      have s3 := soft_blk Q.out.res 3
      have s4 := soft_blk Q.out.res 4
      go_wp2_with fail
      have KS : Kept (fun k => k = w.heap.size + 1) wc (((((wc.setCell ⟨w.heap.size + 1, 0, none⟩ (.int .i64 0)).setCell ⟨w.heap.size + 1, 1, none⟩ (.int .i64 0)).setCell ⟨w.heap.size + 1, 2, none⟩ (.bool false)).setCell ⟨w.heap.size + 1, 3, none⟩ (.bool false)).setCell ⟨w.heap.size + 1, 4, none⟩ (.slice none 0 0)) := (((((Kept.refl (fun k => k = w.heap.size + 1) wc).setCell (p := ⟨w.heap.size + 1, 0, none⟩) (fun _ => rfl) _).setCell (p := ⟨w.heap.size + 1, 1, none⟩) (fun _ => rfl) _).setCell (p := ⟨w.heap.size + 1, 2, none⟩) (fun _ => rfl) _).setCell (p := ⟨w.heap.size + 1, 3, none⟩) (fun _ => rfl) _).setCell (p := ⟨w.heap.size + 1, 4, none⟩) (fun _ => rfl) _
      refine bodyPost_ret (results_get rfl _ _ _ #[.int .i64 0, .int .i64 0, .bool false, .bool false, .slice none 0 0] rfl (.bool false) rfl rfl (heap_set (heap_set (heap_set (heap_set (heap_set Q.out.res 0 _) 1 _) 2 _) 3 _) 4 _)) rfl ⟨0, 0, false, false, none, 0, 0, false, rfl, by omega, ⟨[], rfl, .inl ⟨rfl, rfl⟩⟩, Q.out.kept.trans KS (fun j hj z => by have z : j = w.heap.size + 1 := z; omega)⟩
    · obtain ⟨l, rl, dl⟩ := RD.out rfl
      have RE : Hid (Calls Tryz.prog 37 #[.agg #[.bool df, .bool dh, .slice da dn dc], .agg #[.int .i64 x, .int .i64 y]] wc fun o w' => ∃ p c', o = .returned (.agg #[.int .i64 x, .int .i64 y, .bool df, .bool dh, .slice p dn c']) ∧ w'.ownsRow wc.heap.size 5 1 (.slice p dn c') dn (cellsOf l) ∧ Kept (fun _ => False) wc w') := entry df dh da dn dc x y l wc (rl.kept Q.out.kept (fun _ _ z => z)) dl
      have DL : Hid (dn ≤ 140737488355328) := dl
      clear rl dl
      go_wp2_with fail
      refine RE.out.mono ?_
      rintro o w2 ⟨p, c', rfl, ow, K2⟩
      have Q2 : Hid (GB w w2 x y X df dh da dn dc ∧ w2.ownsRow wc.heap.size 5 1 (.slice p dn c') dn (cellsOf l)) := ⟨⟨K2.get Q.out.tag (fun z => z), K2.get Q.out.res (fun z => z), K2.get Q.out.hold (fun z => z), Q.out.kept.and0 K2⟩, ow⟩
      clear ow K2 t0 t1 h0 h1 h2
      have r0 := cell_blk Q2.out.1.res 0 (v := .int .i64 0) rfl
      have r1 := cell_blk Q2.out.1.res 1 (v := .int .i64 0) rfl
      have r2 := cell_blk Q2.out.1.res 2 (v := .bool false) rfl
      have r3 := cell_blk Q2.out.1.res 3 (v := .bool false) rfl
      have r4 := cell_blk Q2.out.1.res 4 (v := .slice none 0 0) rfl
      have s0 := soft_blk Q2.out.1.res 0
      have s1 := soft_blk Q2.out.1.res 1
      have s2 := soft_blk Q2.out.1.res 2
      have s3 := soft_blk Q2.out.1.res 3
      have s4 := soft_blk Q2.out.1.res 4
      go_wp2_with fail
      have KS : Kept (fun k => k = w.heap.size + 1) w2 (((((w2.setCell ⟨w.heap.size + 1, 0, none⟩ (.int .i64 x)).setCell ⟨w.heap.size + 1, 1, none⟩ (.int .i64 y)).setCell ⟨w.heap.size + 1, 2, none⟩ (.bool df)).setCell ⟨w.heap.size + 1, 3, none⟩ (.bool dh)).setCell ⟨w.heap.size + 1, 4, none⟩ (.slice p dn c')) := (((((Kept.refl (fun k => k = w.heap.size + 1) w2).setCell (p := ⟨w.heap.size + 1, 0, none⟩) (fun _ => rfl) _).setCell (p := ⟨w.heap.size + 1, 1, none⟩) (fun _ => rfl) _).setCell (p := ⟨w.heap.size + 1, 2, none⟩) (fun _ => rfl) _).setCell (p := ⟨w.heap.size + 1, 3, none⟩) (fun _ => rfl) _).setCell (p := ⟨w.heap.size + 1, 4, none⟩) (fun _ => rfl) _
      refine bodyPost_ret (results_get rfl _ _ _ #[.int .i64 x, .int .i64 y, .bool df, .bool dh, .slice p dn c'] rfl (.bool true) rfl rfl (heap_set (heap_set (heap_set (heap_set (heap_set Q2.out.1.res 0 _) 1 _) 2 _) 3 _) 4 _)) rfl ⟨x, y, df, dh, p, dn, c', true, rfl, DL.out, ⟨cellsOf l, owns_mono (KS.owns Q2.out.2 (fun k hk z => ?_)) Q.out.kept.size⟩, Q2.out.1.kept.trans KS (fun j hj z => by have z : j = w.heap.size + 1 := z; omega)⟩
      have z : k = w.heap.size + 1 := z
      have q := (own_lt Q2.out.2 k (by rw [← hk]; exact (blockOf_own ..).symm)).1
      omega
end Go.Proofs.YtojepeefphbekaaGreat

namespace Go.Proofs.YtojepeefphbekaaGreat
open Go.RowKit 

theorem get40 : (Tryz.prog.info? 40).map (fun i => (i.zero, i.size, i.bytes)) = some (some (.agg #[.int .i64 0, .int .i64 0, .bool false, .bool false, .slice none 0 0]), 5, 48) := Tryz.info40c
theorem nTop (key : ByteArray) (w : World) : Calls Tryz.prog 23 #[.pointer none, .string key] w fun o w' => o = .returned (.agg #[.int .i64 0, .int .i64 0]) ∧ Kept (fun _ => False) w w' := by
  go_enter Tryz.func23, Tryz.ntmps23
  go_wp2_with fail
  exact bodyPost_ret (v := .agg #[.int .i64 0, .int .i64 0]) (by simp [results, Tryz.results23, go_sem]) rfl ⟨rfl, k0_alloc _ _⟩
theorem nFloor (key : ByteArray) (w : World) : Calls Tryz.prog 24 #[.pointer none, .string key] w fun o w' => o = .returned (.agg #[.int .i64 0, .int .i64 0]) ∧ Kept (fun _ => False) w w' := by
  go_enter Tryz.func24, Tryz.ntmps24
  go_wp2_with fail
  exact bodyPost_ret (v := .agg #[.int .i64 0, .int .i64 0]) (by simp [results, Tryz.results24, go_sem]) rfl ⟨rfl, k0_alloc _ _⟩
theorem nKeys (w : World) : Calls Tryz.prog 13 #[.pointer none] w fun o w' => o = .returned (.slice none 0 0) ∧ w' = w := by
  go_enter Tryz.func13, Tryz.ntmps13
  go_wp2_with fail
  go_ret
  exact ⟨rfl, rfl⟩
theorem nEnts (key : ByteArray) (w : World) : Calls Tryz.prog 14 #[.pointer none, .string key] w fun o w' => o = .returned (.slice none 0 0) ∧ w' = w := by
  go_enter Tryz.func14, Tryz.ntmps14
  go_wp2_with fail
  go_ret
  exact ⟨rfl, rfl⟩
theorem nFrag (key : ByteArray) (w : World) : Calls Tryz.prog 38 #[.pointer none, .string key] w fun o w' => o = .returned (.int .i64 0) ∧ w' = w := by
  go_enter Tryz.func38, Tryz.ntmps38
  go_wp2_with fail
  go_ret
  exact ⟨rfl, rfl⟩
theorem nCopy (w : World) : Calls Tryz.prog 10 #[.pointer none] w fun o w' => o = .returned (.pointer none) ∧ w' = w := by
  go_enter Tryz.func10, Tryz.ntmps10
  go_wp2_with fail
  go_ret
  exact ⟨rfl, rfl⟩
theorem rKeysN (w : World) : Calls Tryz.prog 53 #[.pointer none] w fun o w' => o = .returned (.slice none 0 0) ∧ w' = w := by
  go_enter Tryz.func53, Tryz.ntmps53
  go_wp2_with fail
  go_ret
  exact ⟨rfl, rfl⟩
theorem rEntsN (key : ByteArray) (w : World) : Calls Tryz.prog 52 #[.pointer none, .string key] w fun o w' => o = .returned (.slice none 0 0) ∧ w' = w := by
  go_enter Tryz.func52, Tryz.ntmps52
  go_wp2_with fail
  go_ret
  exact ⟨rfl, rfl⟩
theorem rCopyN (w : World) : Calls Tryz.prog 30 #[.pointer none] w fun o w' => o = .returned (.pointer none) ∧ w' = w := by
  go_enter Tryz.func30, Tryz.ntmps30
  go_wp2_with fail
  go_ret
  exact ⟨rfl, rfl⟩
theorem nAll (w : World) : Calls Tryz.prog 11 #[.pointer none] w fun o w' => o = .returned (.slice none 0 0) ∧ w' = w := by
  go_enter Tryz.func11, Tryz.ntmps11
  go_wp2_with fail
  refine (nKeys w).mono ?_
  rintro o w1 ⟨rfl, rfl⟩
  go_wp2_with fail
  (try go_frame)
  go_loopw [3, 9] (fun y z wr => y = .slice none 0 0 ∧ z = .int .i64 0 ∧ Hid (wr = w1)) (fun _ _ _ => 0)
  case atStart => exact ⟨rfl, rfl, rfl⟩
  case round =>
    obtain ⟨rfl, rfl, E⟩ := hrel
    go_wp2_with fail
    go_ret
    exact ⟨rfl, E.out⟩
theorem nUpds (w : World) : Calls Tryz.prog 12 #[.pointer none] w fun o w' => o = .returned (.slice none 0 0) ∧ w' = w := by
  go_enter Tryz.func12, Tryz.ntmps12
  go_wp2_with fail
  refine (nAll w).mono ?_
  rintro o w1 ⟨rfl, rfl⟩
  go_wp2_with fail
  (try go_frame)
  go_loopw [3, 5, 7, 11] (fun y _ _ z wr => y = .slice none 0 0 ∧ z = .int .i64 0 ∧ Hid (wr = w1)) (fun _ _ _ _ _ => 0)
  case atStart => exact ⟨rfl, rfl, rfl⟩
  case round =>
    obtain ⟨rfl, rfl, E⟩ := hrel
    go_wp2_with fail
    go_ret
    exact ⟨rfl, E.out⟩
theorem nApply (kd : Int) (key : ByteArray) (x y : Int) (fin has : Bool) (a : Option Addr) (n c : Nat) (w : World) : Calls Tryz.prog 27 #[.pointer none, .agg #[.int .i64 kd, .string key, .int .i64 x, .int .i64 y, .bool fin, .bool has, .slice a n c]] w fun o w' => o = .returned (.tuple #[.bool false, .int .i64 0]) ∧ Kept (fun _ => False) w w' := by
  obtain ⟨W, hW⟩ : ∃ W, W = w.alloc (.cells #[.int .i64 kd, .string key, .int .i64 x, .int .i64 y, .bool fin, .bool has, .slice a n c] 44) := ⟨_, rfl⟩
  have J : Hid (Kept (fun _ => False) w W) := by rw [hW]; exact k0_alloc _ _
  have EW : Hid (W = w.alloc (.cells #[.int .i64 kd, .string key, .int .i64 x, .int .i64 y, .bool fin, .bool has, .slice a n c] 44)) := hW
  clear hW
  go_enter Tryz.func27, Tryz.ntmps27
  go_wp2_with fail
  rw [← EW.out]
  refine (would_nil ⟨kd, key, x, y, fin, has, a, n, c⟩ W).mono ?_
  rintro o w1 ⟨rfl, K1⟩
  go_wp2_with fail
  go_ret2
  exact ⟨rfl, J.out.and0 K1⟩
theorem rApplyN (kd : Int) (key : ByteArray) (x y : Int) (fin has : Bool) (a : Option Addr) (n c : Nat) (w : World) : Calls Tryz.prog 74 #[.pointer none, .agg #[.int .i64 kd, .string key, .int .i64 x, .int .i64 y, .bool fin, .bool has, .slice a n c]] w fun o w' => o = .returned (.tuple #[.bool false, .int .i64 0]) ∧ Kept (fun _ => False) w w' := by
  go_enter Tryz.func74, Tryz.ntmps74
  go_wp2_with fail
  go_ret2
  exact ⟨rfl, k0_alloc _ _⟩
theorem nGet (key : ByteArray) (x y : Int) (w : World) : Calls Tryz.prog 15 #[.pointer none, .string key, .agg #[.int .i64 x, .int .i64 y]] w fun o w' => o = .returned (.tuple #[.agg #[.int .i64 0, .int .i64 0, .bool false, .bool false, .slice none 0 0], .bool false]) ∧ Kept (fun _ => False) w w' := by
  go_enter Tryz.func15, Tryz.ntmps15
  go_wp2_with fail
  refine bodyPost_ret (v := .tuple #[.agg #[.int .i64 0, .int .i64 0, .bool false, .bool false, .slice none 0 0], .bool false]) (by simp [results, Tryz.results15, go_sem]) rfl ⟨rfl, ?_⟩
  exact ((Kept.refl _ w).alloc _).alloc _
theorem rGetN (key : ByteArray) (x y : Int) (w : World) : Calls Tryz.prog 48 #[.pointer none, .string key, .agg #[.int .i64 x, .int .i64 y]] w fun o w' => o = .returned (.tuple #[.agg #[.int .i64 0, .int .i64 0, .bool false, .bool false, .slice none 0 0], .bool false]) ∧ Kept (fun _ => False) w w' := by
  go_enter Tryz.func48, Tryz.ntmps48
  go_wp2_with fail
  refine bodyPost_ret (v := .tuple #[.agg #[.int .i64 0, .int .i64 0, .bool false, .bool false, .slice none 0 0], .bool false]) (by simp [results, Tryz.results48, go_sem]) rfl ⟨rfl, ?_⟩
  exact ((Kept.refl _ w).alloc _).alloc _
end Go.Proofs.YtojepeefphbekaaGreat

namespace Go.Proofs.YtojepeefphbekaaGreat
open Go.RowKit 

set_option maxRecDepth 100000 in
set_option maxHeartbeats 8000000 in
/-- Would of the document's table. -/
theorem rWould (b0 tb : Nat) (delta : Int) (p : Option Addr) (n c : Nat) (L : List Ut) (vs : List Uv) (kd : Int) (key : ByteArray) (x y : Int) (fin has : Bool) (a : Option Addr) (m e : Nat) (l : List Nat) (w : World) (h : RTab b0 w tb delta p n c L vs) (hn : n < 1099511627775) (h0 : 0 ≤ delta) (r : Reads w a m e l) (hm : m ≤ 140737488355328) (hd : ∀ v ∈ vs, v.2.2.2.2.length ≤ 140737488355328) :
    Calls Tryz.prog 72 #[.pointer (some ⟨tb, 0, none⟩), .agg #[.int .i64 kd, .string key, .int .i64 x, .int .i64 y, .bool fin, .bool has, .slice a m e]] w fun o w' => ApAns o (docA delta vs ⟨kd, key, x, y, fin, has, a, m, e⟩ l) (fun _ => Kept (fun _ => False) w w') := by
  obtain ⟨W, hW⟩ : ∃ W, W = w.alloc (.cells #[.int .i64 kd, .string key, .int .i64 x, .int .i64 y, .bool fin, .bool has, .slice a m e] 44) := ⟨_, rfl⟩
  have KZ : Kept (fun _ => False) w W := by rw [hW]; exact k0_alloc _ _
  obtain ⟨⟨r1, r2, r3⟩, hR⟩ : ∃ R, R = docA delta vs ⟨kd, key, x, y, fin, has, a, m, e⟩ l := ⟨_, rfl⟩
  have H : Hid (W.heap[w.heap.size]? = some (.cells #[.int .i64 kd, .string key, .int .i64 x, .int .i64 y, .bool fin, .bool has, .slice a m e] 44 (0, 0)) ∧ Kept (fun _ => False) w W ∧ docA delta vs ⟨kd, key, x, y, fin, has, a, m, e⟩ l = (r1, r2, r3)) := ⟨by rw [hW]; exact heap_alloc_new _ _, KZ, hR.symm⟩
  have EW : Hid (W = w.alloc (.cells #[.int .i64 kd, .string key, .int .i64 x, .int .i64 y, .bool fin, .bool has, .slice a m e] 44)) := hW
  have RC : Hid (∀ V, Kept (fun _ => False) w V → Calls Tryz.prog 30 #[.pointer (some ⟨tb, 0, none⟩)] V fun o w' => ∃ nb, o = .returned (.pointer (some ⟨nb, 0, none⟩)) ∧ Hid (CS V w' nb delta n vs)) := fun V K => rCopy b0 tb delta p n c L vs V (h.k0 K) (by omega) hd
  have RA : Hid (∀ V V' nb, Kept (fun _ => False) w V → CS V V' nb delta n vs → Calls Tryz.prog 74 #[.pointer (some ⟨nb, 0, none⟩), .agg #[.int .i64 kd, .string key, .int .i64 x, .int .i64 y, .bool fin, .bool has, .slice a m e]] V' fun o w' => o = .returned (.tuple #[.bool r1, .int .i64 r2]) ∧ Kept (fun _ => False) V w') := by
    intro V V' nb K cs
    obtain ⟨p1, c1, M, t1, _⟩ := cs.tab
    have := rApply V.heap.size nb delta p1 n c1 M vs kd key x y fin has a m e l V' t1 hn h0 cs.kept.size (r.kept (K.and0 cs.kept) (fun _ _ z => z)) hm
    refine this.mono ?_
    rintro o w' ⟨rfl, q⟩
    rw [← hR] at q ⊢
    refine ⟨rfl, cs.kept.trans q.kept (fun k hk z => ?_)⟩
    rcases z with z | z
    · have := cs.far
      omega
    · have := (own_lt t1.row k z).1
      omega
  clear h KZ hW hn h0 r hm hd hR
  go_enter Tryz.func72, Tryz.ntmps72
  go_upto_region 1 with fail
  rw [← EW.out]
  have SS : Hid (∀ V, Kept (fun _ => False) W V → V.cell? ⟨w.heap.size, 0, none⟩ = some (.int .i64 kd) ∧ V.cell? ⟨w.heap.size, 1, none⟩ = some (.string key) ∧ V.cell? ⟨w.heap.size, 2, none⟩ = some (.int .i64 x) ∧ V.cell? ⟨w.heap.size, 3, none⟩ = some (.int .i64 y) ∧ V.cell? ⟨w.heap.size, 4, none⟩ = some (.bool fin) ∧ V.cell? ⟨w.heap.size, 5, none⟩ = some (.bool has) ∧ V.cell? ⟨w.heap.size, 6, none⟩ = some (.slice a m e)) := by
    intro V K
    have q := K.get H.out.1 (fun z => z)
    exact ⟨cell_blk q 0 rfl, cell_blk q 1 rfl, cell_blk q 2 rfl, cell_blk q 3 rfl, cell_blk q 4 rfl, cell_blk q 5 rfl, cell_blk q 6 rfl⟩
  obtain ⟨t0, t1, t2, t3, t4, t5, t6⟩ := SS.out W (Kept.refl _ _)
  go_region_held3 (fun V => V.cell? ⟨w.heap.size, 0, none⟩ = some (.int .i64 kd) ∧ V.cell? ⟨w.heap.size, 1, none⟩ = some (.string key) ∧ V.cell? ⟨w.heap.size, 2, none⟩ = some (.int .i64 x) ∧ V.cell? ⟨w.heap.size, 3, none⟩ = some (.int .i64 y) ∧ V.cell? ⟨w.heap.size, 4, none⟩ = some (.bool fin) ∧ V.cell? ⟨w.heap.size, 5, none⟩ = some (.bool has) ∧ V.cell? ⟨w.heap.size, 6, none⟩ = some (.slice a m e)) (first | with_reducible exact SS5.out | with_reducible exact SS4.out | go_keep)
    (first
      | (go_at_call 74; refine (RA.out W.drew w4 nb (H.out.2.1.and0 (Kept.refl _ _).drew) Q4.out).mono ?_; rintro o w5 ⟨rfl, K5'⟩
         have K5 : Hid (Kept (fun _ => False) W w5) := ((Kept.refl _ _).drew).and0 K5'
         have SS5 : Hid (w5.cell? ⟨w.heap.size, 0, none⟩ = some (.int .i64 kd) ∧ w5.cell? ⟨w.heap.size, 1, none⟩ = some (.string key) ∧ w5.cell? ⟨w.heap.size, 2, none⟩ = some (.int .i64 x) ∧ w5.cell? ⟨w.heap.size, 3, none⟩ = some (.int .i64 y) ∧ w5.cell? ⟨w.heap.size, 4, none⟩ = some (.bool fin) ∧ w5.cell? ⟨w.heap.size, 5, none⟩ = some (.bool has) ∧ w5.cell? ⟨w.heap.size, 6, none⟩ = some (.slice a m e)) := SS.out w5 K5.out
         clear K5')
      | (go_at_call 30; refine (RC.out W.drew (H.out.2.1.and0 (Kept.refl _ _).drew)).mono ?_; rintro o w4 ⟨nb, rfl, Q4⟩
         have SS4 : Hid (w4.cell? ⟨w.heap.size, 0, none⟩ = some (.int .i64 kd) ∧ w4.cell? ⟨w.heap.size, 1, none⟩ = some (.string key) ∧ w4.cell? ⟨w.heap.size, 2, none⟩ = some (.int .i64 x) ∧ w4.cell? ⟨w.heap.size, 3, none⟩ = some (.int .i64 y) ∧ w4.cell? ⟨w.heap.size, 4, none⟩ = some (.bool fin) ∧ w4.cell? ⟨w.heap.size, 5, none⟩ = some (.bool has) ∧ w4.cell? ⟨w.heap.size, 6, none⟩ = some (.slice a m e)) := SS.out w4 (((Kept.refl _ _).drew).and0 Q4.out.kept))
      | fail)
  all_goals go_wp2_with fail
  all_goals go_ret2
  all_goals exact ApAns.mk H.out.2.2 (H.out.2.1.and0 (by first | exact K5.out | exact K5.out.drew | exact K5.out.drew.drew))
theorem rWouldN (kd : Int) (key : ByteArray) (x y : Int) (fin has : Bool) (a : Option Addr) (m e : Nat) (w : World) : Calls Tryz.prog 72 #[.pointer none, .agg #[.int .i64 kd, .string key, .int .i64 x, .int .i64 y, .bool fin, .bool has, .slice a m e]] w fun o w' => o = .returned (.tuple #[.bool false, .int .i64 0]) ∧ Kept (fun _ => False) w w' := by
  obtain ⟨W, hW⟩ : ∃ W, W = w.alloc (.cells #[.int .i64 kd, .string key, .int .i64 x, .int .i64 y, .bool fin, .bool has, .slice a m e] 44) := ⟨_, rfl⟩
  have H : Hid (W.heap[w.heap.size]? = some (.cells #[.int .i64 kd, .string key, .int .i64 x, .int .i64 y, .bool fin, .bool has, .slice a m e] 44 (0, 0)) ∧ Kept (fun _ => False) w W) := ⟨by rw [hW]; exact heap_alloc_new _ _, by rw [hW]; exact k0_alloc _ _⟩
  have EW : Hid (W = w.alloc (.cells #[.int .i64 kd, .string key, .int .i64 x, .int .i64 y, .bool fin, .bool has, .slice a m e] 44)) := hW
  clear hW
  go_enter Tryz.func72, Tryz.ntmps72
  go_upto_region 1 with fail
  rw [← EW.out]
  have SS : Hid (∀ V, Kept (fun _ => False) W V → V.cell? ⟨w.heap.size, 0, none⟩ = some (.int .i64 kd) ∧ V.cell? ⟨w.heap.size, 1, none⟩ = some (.string key) ∧ V.cell? ⟨w.heap.size, 2, none⟩ = some (.int .i64 x) ∧ V.cell? ⟨w.heap.size, 3, none⟩ = some (.int .i64 y) ∧ V.cell? ⟨w.heap.size, 4, none⟩ = some (.bool fin) ∧ V.cell? ⟨w.heap.size, 5, none⟩ = some (.bool has) ∧ V.cell? ⟨w.heap.size, 6, none⟩ = some (.slice a m e)) := by
    intro V K
    have q := K.get H.out.1 (fun z => z)
    exact ⟨cell_blk q 0 rfl, cell_blk q 1 rfl, cell_blk q 2 rfl, cell_blk q 3 rfl, cell_blk q 4 rfl, cell_blk q 5 rfl, cell_blk q 6 rfl⟩
  obtain ⟨t0, t1, t2, t3, t4, t5, t6⟩ := SS.out W (Kept.refl _ _)
  go_region_held3 (fun V => V.cell? ⟨w.heap.size, 0, none⟩ = some (.int .i64 kd) ∧ V.cell? ⟨w.heap.size, 1, none⟩ = some (.string key) ∧ V.cell? ⟨w.heap.size, 2, none⟩ = some (.int .i64 x) ∧ V.cell? ⟨w.heap.size, 3, none⟩ = some (.int .i64 y) ∧ V.cell? ⟨w.heap.size, 4, none⟩ = some (.bool fin) ∧ V.cell? ⟨w.heap.size, 5, none⟩ = some (.bool has) ∧ V.cell? ⟨w.heap.size, 6, none⟩ = some (.slice a m e)) (first | with_reducible exact SS5.out | go_keep)
    (first
      | (go_at_call 74; refine (rApplyN kd key x y fin has a m e _).mono ?_; rintro o w5 ⟨rfl, K5'⟩
         have K5 : Hid (Kept (fun _ => False) W w5) := ((Kept.refl _ _).drew).and0 K5'
         have SS5 : Hid (w5.cell? ⟨w.heap.size, 0, none⟩ = some (.int .i64 kd) ∧ w5.cell? ⟨w.heap.size, 1, none⟩ = some (.string key) ∧ w5.cell? ⟨w.heap.size, 2, none⟩ = some (.int .i64 x) ∧ w5.cell? ⟨w.heap.size, 3, none⟩ = some (.int .i64 y) ∧ w5.cell? ⟨w.heap.size, 4, none⟩ = some (.bool fin) ∧ w5.cell? ⟨w.heap.size, 5, none⟩ = some (.bool has) ∧ w5.cell? ⟨w.heap.size, 6, none⟩ = some (.slice a m e)) := SS.out w5 K5.out
         clear K5')
      | (go_at_call 30; refine (rCopyN _).mono ?_; rintro o w4 ⟨rfl, rfl⟩)
      | fail)
  all_goals go_wp2_with fail
  all_goals go_ret2
  all_goals exact ⟨rfl, H.out.2.and0 (by first | exact K5.out | exact K5.out.drew | exact K5.out.drew.drew)⟩
end Go.Proofs.YtojepeefphbekaaGreat
