import Derived.Test.YtojepeefphbekaaGreatEntsO
import Derived.Test.YtojepeefphbekaaGreatRCopyJ
import Derived.Test.YtojepeefphbekaaGreatAppl
import Derived.Deep.CutRange
import Derived.Test.YtojepeefphbekaaGreatKeys2
import Derived.Test.YtojepeefphbekaaGreatUpds
import Derived.BigQuiet
import Derived.Test.YtojepeefphbekaaGreatExp2
namespace Go.Proofs.YtojepeefphbekaaGreat
open Go.RowKit 

theorem results_get {fn : Func} {p u : Tmp} (h : fn.results = #[.cell p 40, .tmp u]) (tmps : Array Value) (w : World) (b : Nat) (cs : Array Value) (hz : cs.size = 5) (v : Value) (hp : tmps.getD p undef = .pointer (some ⟨b, 0, none⟩)) (hu : tmps.getD u undef = v) (hb : w.heap[b]? = some (.cells cs 40 (0, 0))) : (results fn tmps).run Tryz.prog w = .ok (.tuple #[.agg cs, v]) w := by
  rw [results_cell_tmp h, hp]
  simp [asAddr, run_loadVar_row w b 40 40 cs (0, 0) _ hb Tryz.underlying40 rfl (by rw [Tryz.info40, hz]), Result.andThen]
  simpa using hu
theorem field89 (a : Option Nat) (b : Option Addr) (w : World) : (Instr.field 89 (.agg #[.map a, .pointer b]) 0).run Tryz.prog w = .ok (.map a) w := by kernel_rfl
/-- The boxes of Get. -/
structure GB (w W : World) (x y : Int) (X : Nat) (df dh : Bool) (da : Option Addr) (dn dc : Nat) : Prop where
  tag : W.heap[w.heap.size]? = some (.cells #[.int .i64 x, .int .i64 y] 37 (0, 0))
  res : W.heap[w.heap.size + 1]? = some (.cells #[.int .i64 0, .int .i64 0, .bool false, .bool false, .slice none 0 0] 40 (0, 0))
  hold : W.heap[X]? = some (.cells #[.bool df, .bool dh, .slice da dn dc] 94 (0, 0))
  kept : Kept (fun _ => False) w W
set_option maxRecDepth 100000 in
set_option maxHeartbeats 4000000 in
/-- Get, of a key that has a row. -/
theorem tGetO (nn : Nat) (t : TK) (key : ByteArray) (r : RK) (x y : Int) (w : World) (h : IsT w nn t) (hk : key.size ≤ maxLen) (hr : t.R key = some r) (ft : TFit (x, y)) (hd : DataOK w r.M) : Calls Tryz.prog 15 #[.pointer (some ⟨t.tb, 0, none⟩), .string key, .agg #[.int .i64 x, .int .i64 y]] w fun o w' => ∃ x' y' f g p n c b, o = .returned (.tuple #[.agg #[.int .i64 x', .int .i64 y', .bool f, .bool g, .slice p n c], .bool b]) ∧ Hid (n ≤ 140737488355328 ∧ (∃ xs, w'.ownsRow w.heap.size 5 1 (.slice p n c) n xs) ∧ Kept (fun _ => False) w w') := by
  obtain ⟨tb, htb⟩ : ∃ tb, tb = t.tb := ⟨_, rfl⟩
  obtain ⟨rb, hrb⟩ : ∃ rb, rb = t.rb := ⟨_, rfl⟩
  obtain ⟨mb, hmb⟩ : ∃ mb, mb = r.mb := ⟨_, rfl⟩
  obtain ⟨sb, hsb⟩ : ∃ sb, sb = r.sb := ⟨_, rfl⟩
  obtain ⟨b, hb⟩ : ∃ b, b = (r.M (x, y)).isSome := ⟨_, rfl⟩
  obtain ⟨⟨df, dh, da, dn, dc⟩, hh⟩ : ∃ hd : Hd, hd = (r.M (x, y)).getD Hd.zero := ⟨_, rfl⟩
  have RD : Hid (b = true → ∃ l, Reads w da dn dc l ∧ dn ≤ 140737488355328) := by
    intro z
    rw [z] at hb
    cases hm : r.M (x, y) with
    | none => rw [hm] at hb; cases hb
    | some k =>
      rw [hm] at hh
      have := hd _ k hm
      have hh : (⟨df, dh, da, dn, dc⟩ : Hd) = k := hh
      rw [← hh] at this
      exact this
  have L1 : Hid (∀ V, Kept (fun _ => False) w V → V.cell? ⟨tb, 1, none⟩ = some (.map (some rb)) ∧ (Instr.lookup 83 (.map (some rb)) (.string key) false).run Tryz.prog V = .ok (.agg #[.map (some mb), .pointer (some ⟨sb, 0, none⟩)]) V ∧ (Instr.lookup 86 (.map (some mb)) (.agg #[.int .i64 x, .int .i64 y]) true).run Tryz.prog V = .ok (.tuple #[.agg #[.bool df, .bool dh, .slice da dn dc], .bool b]) V) := by
    intro V K
    have i := h.k0 K
    have e1 := i.rows.look rowsK hk
    have e3 : RV.val ((t.rv key).getD RV.zero) = .agg #[.map (some mb), .pointer (some ⟨sb, 0, none⟩)] := by
      unfold TK.rv
      rw [hr, hmb, hsb]
      rfl
    rw [e3] at e1
    have e2 := (i.row key r hr).tm.look2 tagsK ft
    rw [← hh, ← hb] at e2
    refine ⟨?_, by rw [hrb]; exact e1, by rw [hmb]; exact e2⟩
    have := cell_blk i.blk 1 (v := .map (some t.rb)) rfl
    rw [htb, hrb]
    exact this
  obtain ⟨W, hW⟩ : ∃ W, W = (w.alloc (.cells #[.int .i64 x, .int .i64 y] 37)).alloc (.cells #[.int .i64 0, .int .i64 0, .bool false, .bool false, .slice none 0 0] 40) := ⟨_, rfl⟩
  have KZ : Kept (fun _ => False) w W := by rw [hW]; exact ((Kept.refl _ w).alloc _).alloc _
  have H : Hid (W.heap[w.heap.size]? = some (.cells #[.int .i64 x, .int .i64 y] 37 (0, 0)) ∧ W.heap[w.heap.size + 1]? = some (.cells #[.int .i64 0, .int .i64 0, .bool false, .bool false, .slice none 0 0] 40 (0, 0)) ∧ Kept (fun _ => False) w W) := by
    refine ⟨?_, ?_, KZ⟩
    · rw [hW]; exact two0 _ _ _
    · rw [hW]; exact two1 _ _ _
  have EW : Hid (W = (w.alloc (.cells #[.int .i64 x, .int .i64 y] 37)).alloc (.cells #[.int .i64 0, .int .i64 0, .bool false, .bool false, .slice none 0 0] 40)) := hW
  have HS : Hid (∀ V, Kept (fun _ => False) W V → V.cell? ⟨tb, 1, none⟩ = some (.map (some rb)) ∧ V.cell? ⟨w.heap.size, 0, none⟩ = some (.int .i64 x) ∧ V.cell? ⟨w.heap.size, 1, none⟩ = some (.int .i64 y) ∧ (Instr.lookup 83 (.map (some rb)) (.string key) false).run Tryz.prog V = .ok (.agg #[.map (some mb), .pointer (some ⟨sb, 0, none⟩)]) V ∧ (Instr.lookup 86 (.map (some mb)) (.agg #[.int .i64 x, .int .i64 y]) true).run Tryz.prog V = .ok (.tuple #[.agg #[.bool df, .bool dh, .slice da dn dc], .bool b]) V) := by
    intro V K
    obtain ⟨q1, q2, q3⟩ := L1.out V (H.out.2.2.and0 K)
    exact ⟨q1, cell_blk (K.get H.out.1 (fun z => z)) 0 rfl, cell_blk (K.get H.out.1 (fun z => z)) 1 rfl, q2, q3⟩
  rw [← htb]
  clear h hk hr ft hd htb hrb hmb hsb hb hh hW KZ L1
  go_enter Tryz.func15, Tryz.ntmps15
  go_upto_region 3 with fail
  rw [← EW.out]
  go_cut [8, 9] (fun u v wc => ∃ (X : Nat), u = .pointer (some ⟨X, 0, none⟩) ∧ v = .bool b ∧ Hid (GB w wc x y X df dh da dn dc))
  case first =>
    have FD := field89
    obtain ⟨q1, q2, q3, q4, q5⟩ := HS.out W (Kept.refl _ _)
    obtain ⟨_, _, _, q6, q7⟩ := HS.out W.drew (Kept.refl _ _).drew
    go_region_held3 (fun w' => w'.cell? ⟨tb, 1, none⟩ = some (.map (some rb)) ∧ w'.cell? ⟨w.heap.size, 0, none⟩ = some (.int .i64 x) ∧ w'.cell? ⟨w.heap.size, 1, none⟩ = some (.int .i64 y) ∧ (Instr.lookup 83 (.map (some rb)) (.string key) false).run Tryz.prog w' = .ok (.agg #[.map (some mb), .pointer (some ⟨sb, 0, none⟩)]) w' ∧ (Instr.lookup 86 (.map (some mb)) (.agg #[.int .i64 x, .int .i64 y]) true).run Tryz.prog w' = .ok (.tuple #[.agg #[.bool df, .bool dh, .slice da dn dc], .bool b]) w') (first | (refine HS.out _ ?_; (repeat (first | with_reducible exact Kept.refl _ _ | with_reducible refine Kept.drew ?_ | with_reducible refine Kept.alloc ?_ _ | refine Kept.setCell ?_ (fun z => absurd z (Nat.lt_irrefl _)) _)); done) | go_keep)
      (fail)
    all_goals go_wp2_with fail
    all_goals go_meet
    all_goals refine ⟨_, rfl, rfl, ?_⟩
    all_goals have KK : Kept (fun _ => False) W (W.alloc (.cells #[.bool df, .bool dh, .slice da dn dc] 94)).drew := ((Kept.refl _ W).alloc _).drew
    all_goals exact ⟨KK.get H.out.1 (fun z => z), KK.get H.out.2.1 (fun z => z), heap_alloc_new _ _, H.out.2.2.and0 KK⟩
  case rest =>
    obtain ⟨X, rfl, rfl, Q⟩ := hcut
    have l1 := block_lt Q.out.res
    have t0 := cell_blk Q.out.tag 0 (v := .int .i64 x) rfl
    have t1 := cell_blk Q.out.tag 1 (v := .int .i64 y) rfl
    have h0 := cell_blk Q.out.hold 0 (v := .bool df) rfl
    have h1 := cell_blk Q.out.hold 1 (v := .bool dh) rfl
    have h2 := cell_blk Q.out.hold 2 (v := .slice da dn dc) rfl
    cases b
    · have r0 := cell_blk Q.out.res 0 (v := .int .i64 0) rfl
      have r1 := cell_blk Q.out.res 1 (v := .int .i64 0) rfl
      have r2 := cell_blk Q.out.res 2 (v := .bool false) rfl
      have r3 := cell_blk Q.out.res 3 (v := .bool false) rfl
      have r4 := cell_blk Q.out.res 4 (v := .slice none 0 0) rfl
      have s0 := soft_blk Q.out.res 0
      have s1 := soft_blk Q.out.res 1
      have s2 := soft_blk Q.out.res 2
      have s3 := soft_blk Q.out.res 3
      have s4 := soft_blk Q.out.res 4
      go_wp2_with fail
      have KS : Kept (fun k => k = w.heap.size + 1) wc (((((wc.setCell ⟨w.heap.size + 1, 0, none⟩ (.int .i64 0)).setCell ⟨w.heap.size + 1, 1, none⟩ (.int .i64 0)).setCell ⟨w.heap.size + 1, 2, none⟩ (.bool false)).setCell ⟨w.heap.size + 1, 3, none⟩ (.bool false)).setCell ⟨w.heap.size + 1, 4, none⟩ (.slice none 0 0)) := (((((Kept.refl (fun k => k = w.heap.size + 1) wc).setCell (p := ⟨w.heap.size + 1, 0, none⟩) (fun _ => rfl) _).setCell (p := ⟨w.heap.size + 1, 1, none⟩) (fun _ => rfl) _).setCell (p := ⟨w.heap.size + 1, 2, none⟩) (fun _ => rfl) _).setCell (p := ⟨w.heap.size + 1, 3, none⟩) (fun _ => rfl) _).setCell (p := ⟨w.heap.size + 1, 4, none⟩) (fun _ => rfl) _
      refine bodyPost_ret (results_get rfl _ _ _ #[.int .i64 0, .int .i64 0, .bool false, .bool false, .slice none 0 0] rfl (.bool false) rfl rfl (heap_set (heap_set (heap_set (heap_set (heap_set Q.out.res 0 _) 1 _) 2 _) 3 _) 4 _)) rfl ⟨0, 0, false, false, none, 0, 0, false, rfl, by omega, ⟨[], rfl, .inl ⟨rfl, rfl⟩⟩, Q.out.kept.trans KS (fun j hj z => by have z : j = w.heap.size + 1 := z; omega)⟩
    · obtain ⟨l, rl, dl⟩ := RD.out rfl
      have RE : Hid (Calls Tryz.prog 37 #[.agg #[.bool df, .bool dh, .slice da dn dc], .agg #[.int .i64 x, .int .i64 y]] wc fun o w' => ∃ p c', o = .returned (.agg #[.int .i64 x, .int .i64 y, .bool df, .bool dh, .slice p dn c']) ∧ w'.ownsRow wc.heap.size 5 1 (.slice p dn c') dn (cellsOf l) ∧ Kept (fun _ => False) wc w') := entry df dh da dn dc x y l wc (rl.kept Q.out.kept (fun _ _ z => z)) dl
      have DL : Hid (dn ≤ 140737488355328) := dl
      clear rl dl
      go_wp2_with fail
      refine RE.out.mono ?_
      rintro o w2 ⟨p, c', rfl, ow, K2⟩
      have Q2 : Hid (GB w w2 x y X df dh da dn dc ∧ w2.ownsRow wc.heap.size 5 1 (.slice p dn c') dn (cellsOf l)) := ⟨⟨K2.get Q.out.tag (fun z => z), K2.get Q.out.res (fun z => z), K2.get Q.out.hold (fun z => z), Q.out.kept.and0 K2⟩, ow⟩
      clear ow K2 t0 t1 h0 h1 h2
      have r0 := cell_blk Q2.out.1.res 0 (v := .int .i64 0) rfl
      have r1 := cell_blk Q2.out.1.res 1 (v := .int .i64 0) rfl
      have r2 := cell_blk Q2.out.1.res 2 (v := .bool false) rfl
      have r3 := cell_blk Q2.out.1.res 3 (v := .bool false) rfl
      have r4 := cell_blk Q2.out.1.res 4 (v := .slice none 0 0) rfl
      have s0 := soft_blk Q2.out.1.res 0
      have s1 := soft_blk Q2.out.1.res 1
      have s2 := soft_blk Q2.out.1.res 2
      have s3 := soft_blk Q2.out.1.res 3
      have s4 := soft_blk Q2.out.1.res 4
      go_wp2_with fail
      have KS : Kept (fun k => k = w.heap.size + 1) w2 (((((w2.setCell ⟨w.heap.size + 1, 0, none⟩ (.int .i64 x)).setCell ⟨w.heap.size + 1, 1, none⟩ (.int .i64 y)).setCell ⟨w.heap.size + 1, 2, none⟩ (.bool df)).setCell ⟨w.heap.size + 1, 3, none⟩ (.bool dh)).setCell ⟨w.heap.size + 1, 4, none⟩ (.slice p dn c')) := (((((Kept.refl (fun k => k = w.heap.size + 1) w2).setCell (p := ⟨w.heap.size + 1, 0, none⟩) (fun _ => rfl) _).setCell (p := ⟨w.heap.size + 1, 1, none⟩) (fun _ => rfl) _).setCell (p := ⟨w.heap.size + 1, 2, none⟩) (fun _ => rfl) _).setCell (p := ⟨w.heap.size + 1, 3, none⟩) (fun _ => rfl) _).setCell (p := ⟨w.heap.size + 1, 4, none⟩) (fun _ => rfl) _
      refine bodyPost_ret (results_get rfl _ _ _ #[.int .i64 x, .int .i64 y, .bool df, .bool dh, .slice p dn c'] rfl (.bool true) rfl rfl (heap_set (heap_set (heap_set (heap_set (heap_set Q2.out.1.res 0 _) 1 _) 2 _) 3 _) 4 _)) rfl ⟨x, y, df, dh, p, dn, c', true, rfl, DL.out, ⟨cellsOf l, owns_mono (KS.owns Q2.out.2 (fun k hk z => ?_)) Q.out.kept.size⟩, Q2.out.1.kept.trans KS (fun j hj z => by have z : j = w.heap.size + 1 := z; omega)⟩
      have z : k = w.heap.size + 1 := z
      have q := (own_lt Q2.out.2 k (by rw [← hk]; exact (blockOf_own ..).symm)).1
      omega
end Go.Proofs.YtojepeefphbekaaGreat

namespace Go.Proofs.YtojepeefphbekaaGreat
open Go.RowKit 

theorem own_str {w : World} {b0 : Nat} {p : Option Addr} {n c : Nat} {ks : List ByteArray} (ow : w.ownsRow b0 9 1 (.slice p n c) n (strs ks)) (hl : ks.length = n) {i : Nat} (hi : i < n) : ∃ b, p = some ⟨b, 0, none⟩ ∧ w.cell? ⟨b, i, none⟩ = some (.string (ks[i]'(by omega))) := by
  rcases ow.2 with ⟨_, hn⟩ | ⟨b, cap, cur, z, _⟩
  · omega
  · have z : Value.slice p n c = .slice (some ⟨b, 0, none⟩) n cap := z
    injection z with z1 _ z3
    subst z1
    subst z3
    have hc := ow.cells (g := b) rfl i (.string (ks[i]'(by omega))) (by unfold strs; rw [List.getElem?_map, List.getElem?_eq_getElem (by omega)]; rfl)
    rw [Addr.add_none, Nat.zero_add] at hc
    exact ⟨b, rfl, hc⟩
set_option maxRecDepth 100000 in
set_option maxHeartbeats 4000000 in
/-- Two lists of keys that are alike. -/
theorem sameKeysE (b1 b2 : Nat) (p1 p2 : Option Addr) (m c1 c2 : Nat) (ks : List ByteArray) (w : World) (h1 : w.ownsRow b1 9 1 (.slice p1 m c1) m (strs ks)) (h2 : w.ownsRow b2 9 1 (.slice p2 m c2) m (strs ks)) (hl : ks.length = m) :
    Calls Tryz.prog 18 #[.slice p1 m c1, .slice p2 m c2] w fun o w' => o = .returned (.bool true) ∧ Kept (fun _ => False) w w' := by
  have H : Hid (w.ownsRow b1 9 1 (.slice p1 m c1) m (strs ks) ∧ w.ownsRow b2 9 1 (.slice p2 m c2) m (strs ks) ∧ ks.length = m) := ⟨h1, h2, hl⟩
  have r1 := own_room h1
  unfold maxLen at r1
  obtain ⟨ra, rb⟩ := r1
  clear h1 h2 hl
  go_enter Tryz.func18, Tryz.ntmps18
  go_wp2_with fail
  go_loopw [5, 13] (fun _ x wr => ∃ (i : Nat), x = .int .i64 (i : Int) ∧ i ≤ m ∧ Hid (Kept (fun _ => False) w wr)) (fun _ x _ => m - (intOf x).toNat)
  case atStart => exact ⟨0, rfl, Nat.zero_le _, Kept.refl _ _⟩
  case round =>
    obtain ⟨i, rfl, hi, S⟩ := hrel
    by_cases hlt : i < m
    · have i1 : (i : Int) < (m : Int) := by omega
      obtain ⟨g1, rfl, d1⟩ := own_str (S.out.owns H.out.1 (fun _ _ z => z)) H.out.2.2 hlt
      obtain ⟨g2, rfl, d2⟩ := own_str (S.out.owns H.out.2.1 (fun _ _ z => z)) H.out.2.2 hlt
      obtain ⟨k, hk⟩ : ∃ k, k = ks[i]'(by have := H.out.2.2; omega) := ⟨_, rfl⟩
      rw [← hk] at d1 d2
      clear hk
      go_upto_region 6 with fail
      go_quiet (fail)
      have KQ : Hid (Kept (fun _ => False) w (wr.drewN nq)) := S.out.and0 (k0_of (below_dN (Below.refl _ _) nq))
      go_wp2_with fail
      go_roundw
      case rel => exact ⟨i + 1, by go_num, by omega, KQ⟩
      case measure => simp [intOf] <;> omega
    · have i1 : ¬ (i : Int) < (m : Int) := by omega
      go_wp2_with fail
      go_ret
      exact ⟨rfl, S.out⟩
end Go.Proofs.YtojepeefphbekaaGreat

namespace Go.Proofs.YtojepeefphbekaaGreat
open Go.RowKit 

theorem hF_iff (l : List Mv) (k : ByteArray) (t : Int × Int) : hF l k t = true ↔ ∃ m ∈ l, key3 m.key = k ∧ t = m.tag ∧ m.fin = true := by
  induction l with
  | nil => simp [hF]
  | cons a l ih =>
    show ((decide (key3 a.key = k) && decide (t = a.tag) && a.fin) || hF l k t) = true ↔ _
    rw [Bool.or_eq_true, ih]
    simp [and_assoc]
theorem hH_iff (l : List Mv) (k : ByteArray) (t : Int × Int) : hH l k t = true ↔ ∃ m ∈ l, key3 m.key = k ∧ t = m.tag ∧ m.brings = true := by
  induction l with
  | nil => simp [hH]
  | cons a l ih =>
    show ((decide (key3 a.key = k) && decide (t = a.tag) && a.brings) || hH l k t) = true ↔ _
    rw [Bool.or_eq_true, ih]
    simp [and_assoc]
theorem h_cong {l l' : List Mv} (e : ∀ m, m ∈ l ↔ m ∈ l') (k : ByteArray) : hF l k = hF l' k ∧ hH l k = hH l' k := by
  constructor
  · funext t
    rw [Bool.eq_iff_iff, hF_iff, hF_iff]
    simp only [e]
  · funext t
    rw [Bool.eq_iff_iff, hH_iff, hH_iff]
    simp only [e]
theorem desc_cong {l l' : List Mv} {key : ByteArray} (h1 : hF l key = hF l' key) (h2 : hH l key = hH l' key) (k : Nat) : desc l key k = desc l' key k ∧ fins l key k = fins l' key k := by
  induction k with
  | zero => exact ⟨rfl, rfl⟩
  | succ k ih =>
    constructor
    · show desc l key k ++ _ = desc l' key k ++ _
      rw [ih.1]
      unfold evN
      rw [h1, h2]
    · show fins l key k + _ = fins l' key k + _
      rw [ih.2, h1]
theorem stop_cong {l l' : List Mv} {key : ByteArray} (h1 : hF l key = hF l' key) (h2 : hH l key = hH l' key) {d : Int} {k : Nat} (s : Stop l key d k) : Stop l' key d k := by
  rcases s with ⟨rfl, h⟩ | ⟨j, rfl, hj, hf, h⟩
  · exact .inl ⟨rfl, by rw [← (desc_cong h1 h2 60).2]; exact h⟩
  · exact .inr ⟨j, rfl, hj, by rw [← h1]; exact hf, by rw [← (desc_cong h1 h2 (j + 1)).2]; exact h⟩
theorem stop_some (l : List Mv) (key : ByteArray) (d : Int) (h0 : 0 ≤ d) : ∃ k, Stop l key d k := by
  have H : ∀ k, k ≤ 60 → ((fins l key k : Int) ≤ d ∨ ∃ k', Stop l key d k') := by
    intro k
    induction k with
    | zero => intro _; exact .inl h0
    | succ k ih =>
      intro hk
      rcases ih (by omega) with z | z
      · by_cases hf : hF l key (tagN (59 - k)) = true
        · have e : fins l key (k + 1) = fins l key k + 1 := by
            show fins l key k + _ = _
            rw [if_pos hf]
          by_cases hd : (fins l key k : Int) + 1 ≤ d
          · left; rw [e]; omega
          · exact .inr ⟨k + 1, .inr ⟨k, rfl, by omega, hf, by rw [e]; omega⟩⟩
        · have e : fins l key (k + 1) = fins l key k := by
            show fins l key k + _ = _
            rw [if_neg hf]
            rfl
          left
          rw [e]
          exact z
      · exact .inr z
  rcases H 60 (Nat.le_refl _) with z | z
  · exact ⟨60, .inl ⟨rfl, z⟩⟩
  · exact z
/-- Moves that are the same make tables that tell the same. -/
theorem same_hist {w wr w' wr' : World} {d : Int} {t t' : TK} {l l' : List Mv} (h : Dst w wr d t l) (h' : Dst w' wr' d t' l') (h0 : 0 ≤ d) (e : ∀ m, m ∈ l ↔ m ∈ l') : (∀ k, t.R k = none ↔ t'.R k = none) ∧ ∀ k g, Ab t (datOf t) k g = Ab t' (datOf t') k g := by
  constructor
  · intro k
    have h1 := h.keys k
    have h2 := h'.keys k
    simp only [e] at h1
    rw [← h2] at h1
    exact ⟨fun z => Classical.byContradiction fun q => h1.2 q z, fun z => Classical.byContradiction fun q => h1.1 q z⟩
  · intro k g
    obtain ⟨e1, e2⟩ := h_cong e k
    obtain ⟨n, st⟩ := stop_some l k d h0
    have q1 := expected_ents h h0 k st
    have q2 := expected_ents h' h0 k (stop_cong e1 e2 st)
    rw [← (desc_cong e1 e2 n).1] at q2
    refine Option.ext (fun x => ?_)
    obtain ⟨f, b, y⟩ := x
    exact (ents_ab q1 g f b y).symm.trans (ents_ab q2 g f b y)
/-- Two places change theirs. -/
theorem swap_mem {α : Type} (L : List α) (j k : Nat) (hj : j < L.length) (hk : k < L.length) (m : α) : m ∈ (L.set j L[k]).set k L[j] ↔ m ∈ L := by
  constructor
  · intro h
    rcases List.mem_or_eq_of_mem_set h with z | z
    · rcases List.mem_or_eq_of_mem_set z with y | y
      · exact y
      · rw [y]; exact List.getElem_mem _
    · rw [z]; exact List.getElem_mem _
  · intro h
    obtain ⟨i, hi, rfl⟩ := List.getElem_of_mem h
    rw [List.mem_iff_getElem]
    by_cases e1 : i = j
    · subst e1
      exact ⟨k, by simpa using hk, by simp⟩
    · by_cases e2 : i = k
      · subst e2
        refine ⟨j, by simpa using hj, ?_⟩
        rw [List.getElem_set_ne (by omega), List.getElem_set_self]
      · refine ⟨i, by simpa using hi, ?_⟩
        rw [List.getElem_set_ne (by omega), List.getElem_set_ne (by omega)]
end Go.Proofs.YtojepeefphbekaaGreat
