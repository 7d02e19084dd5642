import Derived.Test.YtojepeefphbekaaGreatDataJ
namespace Go.Proofs.YtojepeefphbekaaGreat
open Go.RowKit

theorem Kept.set1 {X : Nat} {a b : World} (h : Kept (fun k => k = X) a b) (i : Nat) (u : Value) : Kept (fun k => k = X) a (b.setCell ⟨X, i, none⟩ u) := h.setCell (p := ⟨X, i, none⟩) (fun _ => rfl) u
theorem key3_size (k : Int) : (key3 k).size ≤ 2 := by
  unfold key3
  split
  · decide
  · split
    · decide
    · decide
theorem Tryz.info44 : (Tryz.prog.info? 44).map (·.size) = some 7 := by kernel_rfl
theorem results_upd {fn : Func} {p : Tmp} (h : fn.results = #[.cell p 44]) (tmps : Array Value) (w : World) (b : Nat) (cs : Array Value) (hz : cs.size = 7) (hp : tmps.getD p undef = .pointer (some ⟨b, 0, none⟩)) (hb : w.heap[b]? = some (.cells cs 44 (0, 0))) : (results fn tmps).run Tryz.prog w = .ok (.agg cs) w :=
  results_cell_row h tmps w b 44 _ (0, 0) _ hp hb Tryz.underlying44 rfl (by rw [Tryz.info44, hz])
theorem no_byte39 (i : Nat) (z : Int) (h : (#[.int .i64 0, .string ⟨#[]⟩, .int .i64 0, .int .i64 0, .bool false, .bool false, .slice none 0 0] : Array Value)[i]? = some (.int .u8 z)) : False := by
  match i with
  | 0 => simp at h
  | 1 => simp at h
  | 2 => simp at h
  | 3 => simp at h
  | 4 => simp at h
  | 5 => simp at h
  | 6 => simp at h
  | n + 7 => simp at h
set_option maxRecDepth 100000 in
set_option maxHeartbeats 2000000 in
theorem upd_fin (mk mc ml : Int) (X Y : Nat) (w : World) (hX : mc % 12 + 1 = (X : Int)) (hY : ml % 5 + 1 = (Y : Int)) (x1 : X ≤ 12) (y1 : Y ≤ 5) : Calls Tryz.prog 28 #[.agg #[.int .i64 mk, .bool true, .bool false, .int .i64 mc, .int .i64 ml]] w fun o w' => o = .returned (.agg #[.int .i64 2, .string (key3 mk), .int .i64 (X : Int), .int .i64 (Y : Int), .bool false, .bool false, .slice none 0 0]) ∧ Kept (fun _ => False) w w' := by
  obtain ⟨key, hkey⟩ : ∃ key, key = key3 mk := ⟨_, rfl⟩
  have KS : Hid (key.size ≤ 2) := by rw [hkey]; exact key3_size mk
  have KO : Hid (∀ V : World, Calls Tryz.prog 20 #[.int .i64 mk] V fun o w' => o = .returned (.string key) ∧ Kept (fun _ => False) V w') := by rw [hkey]; exact fun V => keyOf3 mk V
  have TO : Hid (∀ V : World, Calls Tryz.prog 39 #[.agg #[.int .i64 mk, .bool true, .bool false, .int .i64 mc, .int .i64 ml]] V fun o w' => o = .returned (.agg #[.int .i64 (X : Int), .int .i64 (Y : Int)]) ∧ Kept (fun _ => False) V w') := by rw [← hX, ← hY]; exact fun V => tagOf mk true false mc ml V
  have XY : Hid (X ≤ 12 ∧ Y ≤ 5) := ⟨x1, y1⟩
  rw [← hkey]
  obtain ⟨W, hW⟩ : ∃ W, W = (w.alloc (.cells #[.int .i64 mk, .bool true, .bool false, .int .i64 mc, .int .i64 ml] 28)).alloc (.cells #[.int .i64 0, .string ⟨#[]⟩, .int .i64 0, .int .i64 0, .bool false, .bool false, .slice none 0 0] 44) := ⟨_, rfl⟩
  have H : Hid (W.heap[w.heap.size]? = some (.cells #[.int .i64 mk, .bool true, .bool false, .int .i64 mc, .int .i64 ml] 28 (0, 0)) ∧ W.heap[w.heap.size + 1]? = some (.cells #[.int .i64 0, .string ⟨#[]⟩, .int .i64 0, .int .i64 0, .bool false, .bool false, .slice none 0 0] 44 (0, 0)) ∧ Kept (fun _ => False) w W) := by
    rw [hW]
    exact ⟨two0 _ _ _, two1 _ _ _, ((Kept.refl _ w).alloc _).alloc _⟩
  have EW : Hid (W = (w.alloc (.cells #[.int .i64 mk, .bool true, .bool false, .int .i64 mc, .int .i64 ml] 28)).alloc (.cells #[.int .i64 0, .string ⟨#[]⟩, .int .i64 0, .int .i64 0, .bool false, .bool false, .slice none 0 0] 44)) := hW
  clear hW hX hY x1 y1 hkey
  go_enter Tryz.func28, Tryz.ntmps28
  go_upto_region 1 with fail
  rw [← EW.out]
  have g0 := cell_blk H.out.1 0 (v := .int .i64 mk) rfl
  go_wp2_with fail
  refine (KO.out W).mono ?_
  rintro o w2 ⟨rfl, K2⟩
  have H2 : Hid (w2.heap[w.heap.size]? = some (.cells #[.int .i64 mk, .bool true, .bool false, .int .i64 mc, .int .i64 ml] 28 (0, 0)) ∧ w2.heap[w.heap.size + 1]? = some (.cells #[.int .i64 0, .string ⟨#[]⟩, .int .i64 0, .int .i64 0, .bool false, .bool false, .slice none 0 0] 44 (0, 0)) ∧ Kept (fun _ => False) w w2) := ⟨K2.get H.out.1 (fun z => z), K2.get H.out.2.1 (fun z => z), H.out.2.2.and0 K2⟩
  clear K2 g0
  have g0 := cell_blk H2.out.1 0 (v := .int .i64 mk) rfl
  have g1 := cell_blk H2.out.1 1 (v := .bool true) rfl
  have g2 := cell_blk H2.out.1 2 (v := .bool false) rfl
  have g3 := cell_blk H2.out.1 3 (v := .int .i64 mc) rfl
  have g4 := cell_blk H2.out.1 4 (v := .int .i64 ml) rfl
  go_wp2_with fail
  refine (TO.out w2).mono ?_
  rintro o w3 ⟨rfl, K3⟩
  have H3 : Hid (w3.heap[w.heap.size]? = some (.cells #[.int .i64 mk, .bool true, .bool false, .int .i64 mc, .int .i64 ml] 28 (0, 0)) ∧ w3.heap[w.heap.size + 1]? = some (.cells #[.int .i64 0, .string ⟨#[]⟩, .int .i64 0, .int .i64 0, .bool false, .bool false, .slice none 0 0] 44 (0, 0)) ∧ Kept (fun _ => False) w w3) := ⟨K3.get H2.out.1 (fun z => z), K3.get H2.out.2.1 (fun z => z), H2.out.2.2.and0 K3⟩
  clear K3 g0 g1 g2 g3 g4
  go_upto_region 3 with fail
  obtain ⟨W4, hW4⟩ : ∃ W4, W4 = w3.alloc (.cells #[.int .i64 (X : Int), .int .i64 (Y : Int)] 37) := ⟨_, rfl⟩
  obtain ⟨h4, hh4⟩ : ∃ h4, h4 = w3.heap.size := ⟨_, rfl⟩
  have H4 : Hid (W4.heap[w.heap.size]? = some (.cells #[.int .i64 mk, .bool true, .bool false, .int .i64 mc, .int .i64 ml] 28 (0, 0)) ∧ W4.heap[w.heap.size + 1]? = some (.cells #[.int .i64 0, .string ⟨#[]⟩, .int .i64 0, .int .i64 0, .bool false, .bool false, .slice none 0 0] 44 (0, 0)) ∧ W4.heap[h4]? = some (.cells #[.int .i64 (X : Int), .int .i64 (Y : Int)] 37 (0, 0)) ∧ Kept (fun _ => False) w W4 ∧ w.heap.size + 1 < h4) := by
    have K : Kept (fun _ => False) w3 W4 := by rw [hW4]; exact k0_alloc _ _
    exact ⟨K.get H3.out.1 (fun z => z), K.get H3.out.2.1 (fun z => z), by rw [hW4, hh4]; exact heap_alloc_new _ _, H3.out.2.2.and0 K, by rw [hh4]; exact block_lt H3.out.2.1⟩
  rw [← hW4, ← hh4]
  clear hW4 hh4
  have g1 := cell_blk H4.out.1 1 (v := .bool true) rfl
  have g2 := cell_blk H4.out.1 2 (v := .bool false) rfl
  have t0 := cell_blk H4.out.2.2.1 0 (v := .int .i64 (X : Int)) rfl
  have t1 := cell_blk H4.out.2.2.1 1 (v := .int .i64 (Y : Int)) rfl
  have r0 := cell_blk H4.out.2.1 0 (v := .int .i64 0) rfl
  have s0 := soft_blk H4.out.2.1 0
  have r1 := cell_blk H4.out.2.1 1 (v := .string ⟨#[]⟩) rfl
  have s1 := soft_blk H4.out.2.1 1
  have r2 := cell_blk H4.out.2.1 2 (v := .int .i64 0) rfl
  have s2 := soft_blk H4.out.2.1 2
  have r3 := cell_blk H4.out.2.1 3 (v := .int .i64 0) rfl
  have s3 := soft_blk H4.out.2.1 3
  have r4 := cell_blk H4.out.2.1 4 (v := .bool false) rfl
  have s4 := soft_blk H4.out.2.1 4
  have r5 := cell_blk H4.out.2.1 5 (v := .bool false) rfl
  have s5 := soft_blk H4.out.2.1 5
  have r6 := cell_blk H4.out.2.1 6 (v := .slice none 0 0) rfl
  have s6 := soft_blk H4.out.2.1 6
  go_wp2_with fail
  have KK : Kept (fun k => k = w.heap.size + 1) W4 (((((((W4.setCell ⟨w.heap.size + 1, 0, none⟩ (.int .i64 2)).setCell ⟨w.heap.size + 1, 1, none⟩ (.string key)).setCell ⟨w.heap.size + 1, 2, none⟩ (.int .i64 (X : Int))).setCell ⟨w.heap.size + 1, 3, none⟩ (.int .i64 (Y : Int))).setCell ⟨w.heap.size + 1, 4, none⟩ (.bool false)).setCell ⟨w.heap.size + 1, 5, none⟩ (.bool false)).setCell ⟨w.heap.size + 1, 6, none⟩ (.slice none 0 0)) := by repeat (first | with_reducible exact Kept.refl _ _ | with_reducible refine Kept.set1 ?_ _ _)
  refine bodyPost_ret (results_upd rfl _ _ _ #[.int .i64 2, .string key, .int .i64 (X : Int), .int .i64 (Y : Int), .bool false, .bool false, .slice none 0 0] rfl rfl (heap_set (heap_set (heap_set (heap_set (heap_set (heap_set (heap_set H4.out.2.1 0 _) 1 _) 2 _) 3 _) 4 _) 5 _) 6 _)) rfl ⟨rfl, H4.out.2.2.2.1.trans KK (fun j hj z => by have z : j = w.heap.size + 1 := z; omega)⟩
set_option maxRecDepth 100000 in
set_option maxHeartbeats 2000000 in
theorem upd_pre (mk mc ml : Int) (X Y : Nat) (w : World) (hX : mc % 12 + 1 = (X : Int)) (hY : ml % 5 + 1 = (Y : Int)) (x1 : X ≤ 12) (y1 : Y ≤ 5) : Calls Tryz.prog 28 #[.agg #[.int .i64 mk, .bool false, .bool false, .int .i64 mc, .int .i64 ml]] w fun o w' => ∃ p cp, o = .returned (.agg #[.int .i64 1, .string (key3 mk), .int .i64 (X : Int), .int .i64 (Y : Int), .bool false, .bool false, .slice p ((key3 mk).size + 3) cp]) ∧ Reads w' p ((key3 mk).size + 3) cp (sb (key3 mk) ++ [X, Y, 0]) ∧ Kept (fun _ => False) w w' := by
  obtain ⟨key, hkey⟩ : ∃ key, key = key3 mk := ⟨_, rfl⟩
  have KS : Hid (key.size ≤ 2) := by rw [hkey]; exact key3_size mk
  have KO : Hid (∀ V : World, Calls Tryz.prog 20 #[.int .i64 mk] V fun o w' => o = .returned (.string key) ∧ Kept (fun _ => False) V w') := by rw [hkey]; exact fun V => keyOf3 mk V
  have TO : Hid (∀ V : World, Calls Tryz.prog 39 #[.agg #[.int .i64 mk, .bool false, .bool false, .int .i64 mc, .int .i64 ml]] V fun o w' => o = .returned (.agg #[.int .i64 (X : Int), .int .i64 (Y : Int)]) ∧ Kept (fun _ => False) V w') := by rw [← hX, ← hY]; exact fun V => tagOf mk false false mc ml V
  have XY : Hid (X ≤ 12 ∧ Y ≤ 5) := ⟨x1, y1⟩
  rw [← hkey]
  obtain ⟨W, hW⟩ : ∃ W, W = (w.alloc (.cells #[.int .i64 mk, .bool false, .bool false, .int .i64 mc, .int .i64 ml] 28)).alloc (.cells #[.int .i64 0, .string ⟨#[]⟩, .int .i64 0, .int .i64 0, .bool false, .bool false, .slice none 0 0] 44) := ⟨_, rfl⟩
  have H : Hid (W.heap[w.heap.size]? = some (.cells #[.int .i64 mk, .bool false, .bool false, .int .i64 mc, .int .i64 ml] 28 (0, 0)) ∧ W.heap[w.heap.size + 1]? = some (.cells #[.int .i64 0, .string ⟨#[]⟩, .int .i64 0, .int .i64 0, .bool false, .bool false, .slice none 0 0] 44 (0, 0)) ∧ Kept (fun _ => False) w W) := by
    rw [hW]
    exact ⟨two0 _ _ _, two1 _ _ _, ((Kept.refl _ w).alloc _).alloc _⟩
  have EW : Hid (W = (w.alloc (.cells #[.int .i64 mk, .bool false, .bool false, .int .i64 mc, .int .i64 ml] 28)).alloc (.cells #[.int .i64 0, .string ⟨#[]⟩, .int .i64 0, .int .i64 0, .bool false, .bool false, .slice none 0 0] 44)) := hW
  clear hW hX hY x1 y1 hkey
  go_enter Tryz.func28, Tryz.ntmps28
  go_upto_region 1 with fail
  rw [← EW.out]
  have g0 := cell_blk H.out.1 0 (v := .int .i64 mk) rfl
  go_wp2_with fail
  refine (KO.out W).mono ?_
  rintro o w2 ⟨rfl, K2⟩
  have H2 : Hid (w2.heap[w.heap.size]? = some (.cells #[.int .i64 mk, .bool false, .bool false, .int .i64 mc, .int .i64 ml] 28 (0, 0)) ∧ w2.heap[w.heap.size + 1]? = some (.cells #[.int .i64 0, .string ⟨#[]⟩, .int .i64 0, .int .i64 0, .bool false, .bool false, .slice none 0 0] 44 (0, 0)) ∧ Kept (fun _ => False) w w2) := ⟨K2.get H.out.1 (fun z => z), K2.get H.out.2.1 (fun z => z), H.out.2.2.and0 K2⟩
  clear K2 g0
  have g0 := cell_blk H2.out.1 0 (v := .int .i64 mk) rfl
  have g1 := cell_blk H2.out.1 1 (v := .bool false) rfl
  have g2 := cell_blk H2.out.1 2 (v := .bool false) rfl
  have g3 := cell_blk H2.out.1 3 (v := .int .i64 mc) rfl
  have g4 := cell_blk H2.out.1 4 (v := .int .i64 ml) rfl
  go_wp2_with fail
  refine (TO.out w2).mono ?_
  rintro o w3 ⟨rfl, K3⟩
  have H3 : Hid (w3.heap[w.heap.size]? = some (.cells #[.int .i64 mk, .bool false, .bool false, .int .i64 mc, .int .i64 ml] 28 (0, 0)) ∧ w3.heap[w.heap.size + 1]? = some (.cells #[.int .i64 0, .string ⟨#[]⟩, .int .i64 0, .int .i64 0, .bool false, .bool false, .slice none 0 0] 44 (0, 0)) ∧ Kept (fun _ => False) w w3) := ⟨K3.get H2.out.1 (fun z => z), K3.get H2.out.2.1 (fun z => z), H2.out.2.2.and0 K3⟩
  clear K3 g0 g1 g2 g3 g4
  go_upto_region 3 with fail
  obtain ⟨W4, hW4⟩ : ∃ W4, W4 = w3.alloc (.cells #[.int .i64 (X : Int), .int .i64 (Y : Int)] 37) := ⟨_, rfl⟩
  obtain ⟨h4, hh4⟩ : ∃ h4, h4 = w3.heap.size := ⟨_, rfl⟩
  have H4 : Hid (W4.heap[w.heap.size]? = some (.cells #[.int .i64 mk, .bool false, .bool false, .int .i64 mc, .int .i64 ml] 28 (0, 0)) ∧ W4.heap[w.heap.size + 1]? = some (.cells #[.int .i64 0, .string ⟨#[]⟩, .int .i64 0, .int .i64 0, .bool false, .bool false, .slice none 0 0] 44 (0, 0)) ∧ W4.heap[h4]? = some (.cells #[.int .i64 (X : Int), .int .i64 (Y : Int)] 37 (0, 0)) ∧ Kept (fun _ => False) w W4 ∧ w.heap.size + 1 < h4) := by
    have K : Kept (fun _ => False) w3 W4 := by rw [hW4]; exact k0_alloc _ _
    exact ⟨K.get H3.out.1 (fun z => z), K.get H3.out.2.1 (fun z => z), by rw [hW4, hh4]; exact heap_alloc_new _ _, H3.out.2.2.and0 K, by rw [hh4]; exact block_lt H3.out.2.1⟩
  rw [← hW4, ← hh4]
  clear hW4 hh4
  have g1 := cell_blk H4.out.1 1 (v := .bool false) rfl
  have g2 := cell_blk H4.out.1 2 (v := .bool false) rfl
  have t0 := cell_blk H4.out.2.2.1 0 (v := .int .i64 (X : Int)) rfl
  have t1 := cell_blk H4.out.2.2.1 1 (v := .int .i64 (Y : Int)) rfl
  go_upto_region 7 with fail
  go_region_held3 (fun w' => w'.cell? ⟨w.heap.size, 1, none⟩ = some (.bool false) ∧ w'.cell? ⟨h4, 0, none⟩ = some (.int .i64 (X : Int)) ∧ w'.cell? ⟨h4, 1, none⟩ = some (.int .i64 (Y : Int))) (first | (refine HS.out _ ?_; (repeat (first | with_reducible exact Kept.refl _ _ | with_reducible refine Kept.set1 ?_ _ _)); done) | go_keep)
    (first
      | (go_at_call 40; refine (dataOf key X Y W4.drew (by have := KS.out; omega) (by have := XY.out; omega) (by have := XY.out; omega)).mono ?_; rintro o w5 ⟨p, cp, rfl, rd, K5⟩
         have K45 : Kept (fun _ => False) W4 w5 := ((Kept.refl _ _).drew).and0 K5
         have H5 : Hid (w5.heap[w.heap.size]? = some (.cells #[.int .i64 mk, .bool false, .bool false, .int .i64 mc, .int .i64 ml] 28 (0, 0)) ∧ w5.heap[w.heap.size + 1]? = some (.cells #[.int .i64 0, .string ⟨#[]⟩, .int .i64 0, .int .i64 0, .bool false, .bool false, .slice none 0 0] 44 (0, 0)) ∧ w5.heap[h4]? = some (.cells #[.int .i64 (X : Int), .int .i64 (Y : Int)] 37 (0, 0)) ∧ Kept (fun _ => False) w w5 ∧ Reads w5 p (key.size + 3) cp (sb key ++ [X, Y, 0])) := ⟨K45.get H4.out.1 (fun z => z), K45.get H4.out.2.1 (fun z => z), K45.get H4.out.2.2.1 (fun z => z), H4.out.2.2.2.1.and0 K45, rd⟩
         have HS : Hid (∀ V, Kept (fun k => k = w.heap.size + 1) w5 V → V.cell? ⟨w.heap.size, 1, none⟩ = some (.bool false) ∧ V.cell? ⟨h4, 0, none⟩ = some (.int .i64 (X : Int)) ∧ V.cell? ⟨h4, 1, none⟩ = some (.int .i64 (Y : Int))) := by
           intro V K
           have := H4.out.2.2.2.2
           exact ⟨cell_blk (K.get H5.out.1 (by omega)) 1 rfl, cell_blk (K.get H5.out.2.2.1 (by omega)) 0 rfl, cell_blk (K.get H5.out.2.2.1 (by omega)) 1 rfl⟩
         have g1 := cell_blk H5.out.1 1 (v := .bool false) rfl
         have t0 := cell_blk H5.out.2.2.1 0 (v := .int .i64 (X : Int)) rfl
         have t1 := cell_blk H5.out.2.2.1 1 (v := .int .i64 (Y : Int)) rfl
         have r0 := cell_blk H5.out.2.1 0 (v := .int .i64 0) rfl
         have s0 := soft_blk H5.out.2.1 0
         have r1 := cell_blk H5.out.2.1 1 (v := .string ⟨#[]⟩) rfl
         have s1 := soft_blk H5.out.2.1 1
         have r2 := cell_blk H5.out.2.1 2 (v := .int .i64 0) rfl
         have s2 := soft_blk H5.out.2.1 2
         have r3 := cell_blk H5.out.2.1 3 (v := .int .i64 0) rfl
         have s3 := soft_blk H5.out.2.1 3
         have r4 := cell_blk H5.out.2.1 4 (v := .bool false) rfl
         have s4 := soft_blk H5.out.2.1 4
         have r5 := cell_blk H5.out.2.1 5 (v := .bool false) rfl
         have s5 := soft_blk H5.out.2.1 5
         have r6 := cell_blk H5.out.2.1 6 (v := .slice none 0 0) rfl
         have s6 := soft_blk H5.out.2.1 6
         clear K5 K45 rd)
      | fail)
  go_wp2_with fail
  have KK : Kept (fun k => k = w.heap.size + 1) w5 (((((((w5.setCell ⟨w.heap.size + 1, 0, none⟩ (.int .i64 1)).setCell ⟨w.heap.size + 1, 1, none⟩ (.string key)).setCell ⟨w.heap.size + 1, 2, none⟩ (.int .i64 (X : Int))).setCell ⟨w.heap.size + 1, 3, none⟩ (.int .i64 (Y : Int))).setCell ⟨w.heap.size + 1, 4, none⟩ (.bool false)).setCell ⟨w.heap.size + 1, 5, none⟩ (.bool false)).setCell ⟨w.heap.size + 1, 6, none⟩ (.slice p (key.size + 3) cp)) := by repeat (first | with_reducible exact Kept.refl _ _ | with_reducible refine Kept.set1 ?_ _ _)
  refine bodyPost_ret (results_upd rfl _ _ _ #[.int .i64 1, .string key, .int .i64 (X : Int), .int .i64 (Y : Int), .bool false, .bool false, .slice p (key.size + 3) cp] rfl rfl (heap_set (heap_set (heap_set (heap_set (heap_set (heap_set (heap_set H5.out.2.1 0 _) 1 _) 2 _) 3 _) 4 _) 5 _) 6 _)) rfl ⟨p, cp, rfl, H5.out.2.2.2.2.kept0 KK (fun h0 q hq z => ?_), H5.out.2.2.2.1.trans KK (fun j hj z => by have z : j = w.heap.size + 1 := z; omega)⟩
  obtain ⟨b5, o5, e5, hc5⟩ := H5.out.2.2.2.2.cells h0
  have z : q.block = w.heap.size + 1 := z
  rw [hq] at e5
  have e5 := Option.some.inj e5
  rw [e5] at z
  have z : b5 = w.heap.size + 1 := z
  have := hc5 0 h0
  rw [z, cell_of_row w5 (w.heap.size + 1) _ _ 44 (0, 0) H5.out.2.1] at this
  exact no_byte39 _ _ this
set_option maxRecDepth 100000 in
set_option maxHeartbeats 2000000 in
theorem upd_bothT (mk mc ml : Int) (X Y : Nat) (w : World) (hX : mc % 12 + 1 = (X : Int)) (hY : ml % 5 + 1 = (Y : Int)) (x1 : X ≤ 12) (y1 : Y ≤ 5) : Calls Tryz.prog 28 #[.agg #[.int .i64 mk, .bool true, .bool true, .int .i64 mc, .int .i64 ml]] w fun o w' => ∃ p cp, o = .returned (.agg #[.int .i64 3, .string (key3 mk), .int .i64 (X : Int), .int .i64 (Y : Int), .bool true, .bool true, .slice p ((key3 mk).size + 3) cp]) ∧ Reads w' p ((key3 mk).size + 3) cp (sb (key3 mk) ++ [X, Y, 0]) ∧ Kept (fun _ => False) w w' := by
  obtain ⟨key, hkey⟩ : ∃ key, key = key3 mk := ⟨_, rfl⟩
  have KS : Hid (key.size ≤ 2) := by rw [hkey]; exact key3_size mk
  have KO : Hid (∀ V : World, Calls Tryz.prog 20 #[.int .i64 mk] V fun o w' => o = .returned (.string key) ∧ Kept (fun _ => False) V w') := by rw [hkey]; exact fun V => keyOf3 mk V
  have TO : Hid (∀ V : World, Calls Tryz.prog 39 #[.agg #[.int .i64 mk, .bool true, .bool true, .int .i64 mc, .int .i64 ml]] V fun o w' => o = .returned (.agg #[.int .i64 (X : Int), .int .i64 (Y : Int)]) ∧ Kept (fun _ => False) V w') := by rw [← hX, ← hY]; exact fun V => tagOf mk true true mc ml V
  have XY : Hid (X ≤ 12 ∧ Y ≤ 5) := ⟨x1, y1⟩
  rw [← hkey]
  obtain ⟨W, hW⟩ : ∃ W, W = (w.alloc (.cells #[.int .i64 mk, .bool true, .bool true, .int .i64 mc, .int .i64 ml] 28)).alloc (.cells #[.int .i64 0, .string ⟨#[]⟩, .int .i64 0, .int .i64 0, .bool false, .bool false, .slice none 0 0] 44) := ⟨_, rfl⟩
  have H : Hid (W.heap[w.heap.size]? = some (.cells #[.int .i64 mk, .bool true, .bool true, .int .i64 mc, .int .i64 ml] 28 (0, 0)) ∧ W.heap[w.heap.size + 1]? = some (.cells #[.int .i64 0, .string ⟨#[]⟩, .int .i64 0, .int .i64 0, .bool false, .bool false, .slice none 0 0] 44 (0, 0)) ∧ Kept (fun _ => False) w W) := by
    rw [hW]
    exact ⟨two0 _ _ _, two1 _ _ _, ((Kept.refl _ w).alloc _).alloc _⟩
  have EW : Hid (W = (w.alloc (.cells #[.int .i64 mk, .bool true, .bool true, .int .i64 mc, .int .i64 ml] 28)).alloc (.cells #[.int .i64 0, .string ⟨#[]⟩, .int .i64 0, .int .i64 0, .bool false, .bool false, .slice none 0 0] 44)) := hW
  clear hW hX hY x1 y1 hkey
  go_enter Tryz.func28, Tryz.ntmps28
  go_upto_region 1 with fail
  rw [← EW.out]
  have g0 := cell_blk H.out.1 0 (v := .int .i64 mk) rfl
  go_wp2_with fail
  refine (KO.out W).mono ?_
  rintro o w2 ⟨rfl, K2⟩
  have H2 : Hid (w2.heap[w.heap.size]? = some (.cells #[.int .i64 mk, .bool true, .bool true, .int .i64 mc, .int .i64 ml] 28 (0, 0)) ∧ w2.heap[w.heap.size + 1]? = some (.cells #[.int .i64 0, .string ⟨#[]⟩, .int .i64 0, .int .i64 0, .bool false, .bool false, .slice none 0 0] 44 (0, 0)) ∧ Kept (fun _ => False) w w2) := ⟨K2.get H.out.1 (fun z => z), K2.get H.out.2.1 (fun z => z), H.out.2.2.and0 K2⟩
  clear K2 g0
  have g0 := cell_blk H2.out.1 0 (v := .int .i64 mk) rfl
  have g1 := cell_blk H2.out.1 1 (v := .bool true) rfl
  have g2 := cell_blk H2.out.1 2 (v := .bool true) rfl
  have g3 := cell_blk H2.out.1 3 (v := .int .i64 mc) rfl
  have g4 := cell_blk H2.out.1 4 (v := .int .i64 ml) rfl
  go_wp2_with fail
  refine (TO.out w2).mono ?_
  rintro o w3 ⟨rfl, K3⟩
  have H3 : Hid (w3.heap[w.heap.size]? = some (.cells #[.int .i64 mk, .bool true, .bool true, .int .i64 mc, .int .i64 ml] 28 (0, 0)) ∧ w3.heap[w.heap.size + 1]? = some (.cells #[.int .i64 0, .string ⟨#[]⟩, .int .i64 0, .int .i64 0, .bool false, .bool false, .slice none 0 0] 44 (0, 0)) ∧ Kept (fun _ => False) w w3) := ⟨K3.get H2.out.1 (fun z => z), K3.get H2.out.2.1 (fun z => z), H2.out.2.2.and0 K3⟩
  clear K3 g0 g1 g2 g3 g4
  go_upto_region 3 with fail
  obtain ⟨W4, hW4⟩ : ∃ W4, W4 = w3.alloc (.cells #[.int .i64 (X : Int), .int .i64 (Y : Int)] 37) := ⟨_, rfl⟩
  obtain ⟨h4, hh4⟩ : ∃ h4, h4 = w3.heap.size := ⟨_, rfl⟩
  have H4 : Hid (W4.heap[w.heap.size]? = some (.cells #[.int .i64 mk, .bool true, .bool true, .int .i64 mc, .int .i64 ml] 28 (0, 0)) ∧ W4.heap[w.heap.size + 1]? = some (.cells #[.int .i64 0, .string ⟨#[]⟩, .int .i64 0, .int .i64 0, .bool false, .bool false, .slice none 0 0] 44 (0, 0)) ∧ W4.heap[h4]? = some (.cells #[.int .i64 (X : Int), .int .i64 (Y : Int)] 37 (0, 0)) ∧ Kept (fun _ => False) w W4 ∧ w.heap.size + 1 < h4) := by
    have K : Kept (fun _ => False) w3 W4 := by rw [hW4]; exact k0_alloc _ _
    exact ⟨K.get H3.out.1 (fun z => z), K.get H3.out.2.1 (fun z => z), by rw [hW4, hh4]; exact heap_alloc_new _ _, H3.out.2.2.and0 K, by rw [hh4]; exact block_lt H3.out.2.1⟩
  rw [← hW4, ← hh4]
  clear hW4 hh4
  have g1 := cell_blk H4.out.1 1 (v := .bool true) rfl
  have g2 := cell_blk H4.out.1 2 (v := .bool true) rfl
  have t0 := cell_blk H4.out.2.2.1 0 (v := .int .i64 (X : Int)) rfl
  have t1 := cell_blk H4.out.2.2.1 1 (v := .int .i64 (Y : Int)) rfl
  go_upto_region 4 with fail
  go_region_held3 (fun w' => w'.cell? ⟨w.heap.size, 1, none⟩ = some (.bool true) ∧ w'.cell? ⟨h4, 0, none⟩ = some (.int .i64 (X : Int)) ∧ w'.cell? ⟨h4, 1, none⟩ = some (.int .i64 (Y : Int))) (first | (refine HS.out _ ?_; (repeat (first | with_reducible exact Kept.refl _ _ | with_reducible refine Kept.set1 ?_ _ _)); done) | go_keep)
    (first
      | (go_at_call 40; refine (dataOf key X Y W4.drew (by have := KS.out; omega) (by have := XY.out; omega) (by have := XY.out; omega)).mono ?_; rintro o w5 ⟨p, cp, rfl, rd, K5⟩
         have K45 : Kept (fun _ => False) W4 w5 := ((Kept.refl _ _).drew).and0 K5
         have H5 : Hid (w5.heap[w.heap.size]? = some (.cells #[.int .i64 mk, .bool true, .bool true, .int .i64 mc, .int .i64 ml] 28 (0, 0)) ∧ w5.heap[w.heap.size + 1]? = some (.cells #[.int .i64 0, .string ⟨#[]⟩, .int .i64 0, .int .i64 0, .bool false, .bool false, .slice none 0 0] 44 (0, 0)) ∧ w5.heap[h4]? = some (.cells #[.int .i64 (X : Int), .int .i64 (Y : Int)] 37 (0, 0)) ∧ Kept (fun _ => False) w w5 ∧ Reads w5 p (key.size + 3) cp (sb key ++ [X, Y, 0])) := ⟨K45.get H4.out.1 (fun z => z), K45.get H4.out.2.1 (fun z => z), K45.get H4.out.2.2.1 (fun z => z), H4.out.2.2.2.1.and0 K45, rd⟩
         have HS : Hid (∀ V, Kept (fun k => k = w.heap.size + 1) w5 V → V.cell? ⟨w.heap.size, 1, none⟩ = some (.bool true) ∧ V.cell? ⟨h4, 0, none⟩ = some (.int .i64 (X : Int)) ∧ V.cell? ⟨h4, 1, none⟩ = some (.int .i64 (Y : Int))) := by
           intro V K
           have := H4.out.2.2.2.2
           exact ⟨cell_blk (K.get H5.out.1 (by omega)) 1 rfl, cell_blk (K.get H5.out.2.2.1 (by omega)) 0 rfl, cell_blk (K.get H5.out.2.2.1 (by omega)) 1 rfl⟩
         have g1 := cell_blk H5.out.1 1 (v := .bool true) rfl
         have t0 := cell_blk H5.out.2.2.1 0 (v := .int .i64 (X : Int)) rfl
         have t1 := cell_blk H5.out.2.2.1 1 (v := .int .i64 (Y : Int)) rfl
         have r0 := cell_blk H5.out.2.1 0 (v := .int .i64 0) rfl
         have s0 := soft_blk H5.out.2.1 0
         have r1 := cell_blk H5.out.2.1 1 (v := .string ⟨#[]⟩) rfl
         have s1 := soft_blk H5.out.2.1 1
         have r2 := cell_blk H5.out.2.1 2 (v := .int .i64 0) rfl
         have s2 := soft_blk H5.out.2.1 2
         have r3 := cell_blk H5.out.2.1 3 (v := .int .i64 0) rfl
         have s3 := soft_blk H5.out.2.1 3
         have r4 := cell_blk H5.out.2.1 4 (v := .bool false) rfl
         have s4 := soft_blk H5.out.2.1 4
         have r5 := cell_blk H5.out.2.1 5 (v := .bool false) rfl
         have s5 := soft_blk H5.out.2.1 5
         have r6 := cell_blk H5.out.2.1 6 (v := .slice none 0 0) rfl
         have s6 := soft_blk H5.out.2.1 6
         clear K5 K45 rd)
      | fail)
  go_wp2_with fail
  have KK : Kept (fun k => k = w.heap.size + 1) w5 (((((((w5.setCell ⟨w.heap.size + 1, 0, none⟩ (.int .i64 3)).setCell ⟨w.heap.size + 1, 1, none⟩ (.string key)).setCell ⟨w.heap.size + 1, 2, none⟩ (.int .i64 (X : Int))).setCell ⟨w.heap.size + 1, 3, none⟩ (.int .i64 (Y : Int))).setCell ⟨w.heap.size + 1, 4, none⟩ (.bool true)).setCell ⟨w.heap.size + 1, 5, none⟩ (.bool true)).setCell ⟨w.heap.size + 1, 6, none⟩ (.slice p (key.size + 3) cp)) := by repeat (first | with_reducible exact Kept.refl _ _ | with_reducible refine Kept.set1 ?_ _ _)
  refine bodyPost_ret (results_upd rfl _ _ _ #[.int .i64 3, .string key, .int .i64 (X : Int), .int .i64 (Y : Int), .bool true, .bool true, .slice p (key.size + 3) cp] rfl rfl (heap_set (heap_set (heap_set (heap_set (heap_set (heap_set (heap_set H5.out.2.1 0 _) 1 _) 2 _) 3 _) 4 _) 5 _) 6 _)) rfl ⟨p, cp, rfl, H5.out.2.2.2.2.kept0 KK (fun h0 q hq z => ?_), H5.out.2.2.2.1.trans KK (fun j hj z => by have z : j = w.heap.size + 1 := z; omega)⟩
  obtain ⟨b5, o5, e5, hc5⟩ := H5.out.2.2.2.2.cells h0
  have z : q.block = w.heap.size + 1 := z
  rw [hq] at e5
  have e5 := Option.some.inj e5
  rw [e5] at z
  have z : b5 = w.heap.size + 1 := z
  have := hc5 0 h0
  rw [z, cell_of_row w5 (w.heap.size + 1) _ _ 44 (0, 0) H5.out.2.1] at this
  exact no_byte39 _ _ this
set_option maxRecDepth 100000 in
set_option maxHeartbeats 2000000 in
theorem upd_bothF (mk mc ml : Int) (X Y : Nat) (w : World) (hX : mc % 12 + 1 = (X : Int)) (hY : ml % 5 + 1 = (Y : Int)) (x1 : X ≤ 12) (y1 : Y ≤ 5) : Calls Tryz.prog 28 #[.agg #[.int .i64 mk, .bool false, .bool true, .int .i64 mc, .int .i64 ml]] w fun o w' => ∃ p cp, o = .returned (.agg #[.int .i64 3, .string (key3 mk), .int .i64 (X : Int), .int .i64 (Y : Int), .bool false, .bool true, .slice p ((key3 mk).size + 3) cp]) ∧ Reads w' p ((key3 mk).size + 3) cp (sb (key3 mk) ++ [X, Y, 0]) ∧ Kept (fun _ => False) w w' := by
  obtain ⟨key, hkey⟩ : ∃ key, key = key3 mk := ⟨_, rfl⟩
  have KS : Hid (key.size ≤ 2) := by rw [hkey]; exact key3_size mk
  have KO : Hid (∀ V : World, Calls Tryz.prog 20 #[.int .i64 mk] V fun o w' => o = .returned (.string key) ∧ Kept (fun _ => False) V w') := by rw [hkey]; exact fun V => keyOf3 mk V
  have TO : Hid (∀ V : World, Calls Tryz.prog 39 #[.agg #[.int .i64 mk, .bool false, .bool true, .int .i64 mc, .int .i64 ml]] V fun o w' => o = .returned (.agg #[.int .i64 (X : Int), .int .i64 (Y : Int)]) ∧ Kept (fun _ => False) V w') := by rw [← hX, ← hY]; exact fun V => tagOf mk false true mc ml V
  have XY : Hid (X ≤ 12 ∧ Y ≤ 5) := ⟨x1, y1⟩
  rw [← hkey]
  obtain ⟨W, hW⟩ : ∃ W, W = (w.alloc (.cells #[.int .i64 mk, .bool false, .bool true, .int .i64 mc, .int .i64 ml] 28)).alloc (.cells #[.int .i64 0, .string ⟨#[]⟩, .int .i64 0, .int .i64 0, .bool false, .bool false, .slice none 0 0] 44) := ⟨_, rfl⟩
  have H : Hid (W.heap[w.heap.size]? = some (.cells #[.int .i64 mk, .bool false, .bool true, .int .i64 mc, .int .i64 ml] 28 (0, 0)) ∧ W.heap[w.heap.size + 1]? = some (.cells #[.int .i64 0, .string ⟨#[]⟩, .int .i64 0, .int .i64 0, .bool false, .bool false, .slice none 0 0] 44 (0, 0)) ∧ Kept (fun _ => False) w W) := by
    rw [hW]
    exact ⟨two0 _ _ _, two1 _ _ _, ((Kept.refl _ w).alloc _).alloc _⟩
  have EW : Hid (W = (w.alloc (.cells #[.int .i64 mk, .bool false, .bool true, .int .i64 mc, .int .i64 ml] 28)).alloc (.cells #[.int .i64 0, .string ⟨#[]⟩, .int .i64 0, .int .i64 0, .bool false, .bool false, .slice none 0 0] 44)) := hW
  clear hW hX hY x1 y1 hkey
  go_enter Tryz.func28, Tryz.ntmps28
  go_upto_region 1 with fail
  rw [← EW.out]
  have g0 := cell_blk H.out.1 0 (v := .int .i64 mk) rfl
  go_wp2_with fail
  refine (KO.out W).mono ?_
  rintro o w2 ⟨rfl, K2⟩
  have H2 : Hid (w2.heap[w.heap.size]? = some (.cells #[.int .i64 mk, .bool false, .bool true, .int .i64 mc, .int .i64 ml] 28 (0, 0)) ∧ w2.heap[w.heap.size + 1]? = some (.cells #[.int .i64 0, .string ⟨#[]⟩, .int .i64 0, .int .i64 0, .bool false, .bool false, .slice none 0 0] 44 (0, 0)) ∧ Kept (fun _ => False) w w2) := ⟨K2.get H.out.1 (fun z => z), K2.get H.out.2.1 (fun z => z), H.out.2.2.and0 K2⟩
  clear K2 g0
  have g0 := cell_blk H2.out.1 0 (v := .int .i64 mk) rfl
  have g1 := cell_blk H2.out.1 1 (v := .bool false) rfl
  have g2 := cell_blk H2.out.1 2 (v := .bool true) rfl
  have g3 := cell_blk H2.out.1 3 (v := .int .i64 mc) rfl
  have g4 := cell_blk H2.out.1 4 (v := .int .i64 ml) rfl
  go_wp2_with fail
  refine (TO.out w2).mono ?_
  rintro o w3 ⟨rfl, K3⟩
  have H3 : Hid (w3.heap[w.heap.size]? = some (.cells #[.int .i64 mk, .bool false, .bool true, .int .i64 mc, .int .i64 ml] 28 (0, 0)) ∧ w3.heap[w.heap.size + 1]? = some (.cells #[.int .i64 0, .string ⟨#[]⟩, .int .i64 0, .int .i64 0, .bool false, .bool false, .slice none 0 0] 44 (0, 0)) ∧ Kept (fun _ => False) w w3) := ⟨K3.get H2.out.1 (fun z => z), K3.get H2.out.2.1 (fun z => z), H2.out.2.2.and0 K3⟩
  clear K3 g0 g1 g2 g3 g4
  go_upto_region 3 with fail
  obtain ⟨W4, hW4⟩ : ∃ W4, W4 = w3.alloc (.cells #[.int .i64 (X : Int), .int .i64 (Y : Int)] 37) := ⟨_, rfl⟩
  obtain ⟨h4, hh4⟩ : ∃ h4, h4 = w3.heap.size := ⟨_, rfl⟩
  have H4 : Hid (W4.heap[w.heap.size]? = some (.cells #[.int .i64 mk, .bool false, .bool true, .int .i64 mc, .int .i64 ml] 28 (0, 0)) ∧ W4.heap[w.heap.size + 1]? = some (.cells #[.int .i64 0, .string ⟨#[]⟩, .int .i64 0, .int .i64 0, .bool false, .bool false, .slice none 0 0] 44 (0, 0)) ∧ W4.heap[h4]? = some (.cells #[.int .i64 (X : Int), .int .i64 (Y : Int)] 37 (0, 0)) ∧ Kept (fun _ => False) w W4 ∧ w.heap.size + 1 < h4) := by
    have K : Kept (fun _ => False) w3 W4 := by rw [hW4]; exact k0_alloc _ _
    exact ⟨K.get H3.out.1 (fun z => z), K.get H3.out.2.1 (fun z => z), by rw [hW4, hh4]; exact heap_alloc_new _ _, H3.out.2.2.and0 K, by rw [hh4]; exact block_lt H3.out.2.1⟩
  rw [← hW4, ← hh4]
  clear hW4 hh4
  have g1 := cell_blk H4.out.1 1 (v := .bool false) rfl
  have g2 := cell_blk H4.out.1 2 (v := .bool true) rfl
  have t0 := cell_blk H4.out.2.2.1 0 (v := .int .i64 (X : Int)) rfl
  have t1 := cell_blk H4.out.2.2.1 1 (v := .int .i64 (Y : Int)) rfl
  go_upto_region 4 with fail
  go_region_held3 (fun w' => w'.cell? ⟨w.heap.size, 1, none⟩ = some (.bool false) ∧ w'.cell? ⟨h4, 0, none⟩ = some (.int .i64 (X : Int)) ∧ w'.cell? ⟨h4, 1, none⟩ = some (.int .i64 (Y : Int))) (first | (refine HS.out _ ?_; (repeat (first | with_reducible exact Kept.refl _ _ | with_reducible refine Kept.set1 ?_ _ _)); done) | go_keep)
    (first
      | (go_at_call 40; refine (dataOf key X Y W4.drew (by have := KS.out; omega) (by have := XY.out; omega) (by have := XY.out; omega)).mono ?_; rintro o w5 ⟨p, cp, rfl, rd, K5⟩
         have K45 : Kept (fun _ => False) W4 w5 := ((Kept.refl _ _).drew).and0 K5
         have H5 : Hid (w5.heap[w.heap.size]? = some (.cells #[.int .i64 mk, .bool false, .bool true, .int .i64 mc, .int .i64 ml] 28 (0, 0)) ∧ w5.heap[w.heap.size + 1]? = some (.cells #[.int .i64 0, .string ⟨#[]⟩, .int .i64 0, .int .i64 0, .bool false, .bool false, .slice none 0 0] 44 (0, 0)) ∧ w5.heap[h4]? = some (.cells #[.int .i64 (X : Int), .int .i64 (Y : Int)] 37 (0, 0)) ∧ Kept (fun _ => False) w w5 ∧ Reads w5 p (key.size + 3) cp (sb key ++ [X, Y, 0])) := ⟨K45.get H4.out.1 (fun z => z), K45.get H4.out.2.1 (fun z => z), K45.get H4.out.2.2.1 (fun z => z), H4.out.2.2.2.1.and0 K45, rd⟩
         have HS : Hid (∀ V, Kept (fun k => k = w.heap.size + 1) w5 V → V.cell? ⟨w.heap.size, 1, none⟩ = some (.bool false) ∧ V.cell? ⟨h4, 0, none⟩ = some (.int .i64 (X : Int)) ∧ V.cell? ⟨h4, 1, none⟩ = some (.int .i64 (Y : Int))) := by
           intro V K
           have := H4.out.2.2.2.2
           exact ⟨cell_blk (K.get H5.out.1 (by omega)) 1 rfl, cell_blk (K.get H5.out.2.2.1 (by omega)) 0 rfl, cell_blk (K.get H5.out.2.2.1 (by omega)) 1 rfl⟩
         have g1 := cell_blk H5.out.1 1 (v := .bool false) rfl
         have t0 := cell_blk H5.out.2.2.1 0 (v := .int .i64 (X : Int)) rfl
         have t1 := cell_blk H5.out.2.2.1 1 (v := .int .i64 (Y : Int)) rfl
         have r0 := cell_blk H5.out.2.1 0 (v := .int .i64 0) rfl
         have s0 := soft_blk H5.out.2.1 0
         have r1 := cell_blk H5.out.2.1 1 (v := .string ⟨#[]⟩) rfl
         have s1 := soft_blk H5.out.2.1 1
         have r2 := cell_blk H5.out.2.1 2 (v := .int .i64 0) rfl
         have s2 := soft_blk H5.out.2.1 2
         have r3 := cell_blk H5.out.2.1 3 (v := .int .i64 0) rfl
         have s3 := soft_blk H5.out.2.1 3
         have r4 := cell_blk H5.out.2.1 4 (v := .bool false) rfl
         have s4 := soft_blk H5.out.2.1 4
         have r5 := cell_blk H5.out.2.1 5 (v := .bool false) rfl
         have s5 := soft_blk H5.out.2.1 5
         have r6 := cell_blk H5.out.2.1 6 (v := .slice none 0 0) rfl
         have s6 := soft_blk H5.out.2.1 6
         clear K5 K45 rd)
      | fail)
  go_wp2_with fail
  have KK : Kept (fun k => k = w.heap.size + 1) w5 (((((((w5.setCell ⟨w.heap.size + 1, 0, none⟩ (.int .i64 3)).setCell ⟨w.heap.size + 1, 1, none⟩ (.string key)).setCell ⟨w.heap.size + 1, 2, none⟩ (.int .i64 (X : Int))).setCell ⟨w.heap.size + 1, 3, none⟩ (.int .i64 (Y : Int))).setCell ⟨w.heap.size + 1, 4, none⟩ (.bool false)).setCell ⟨w.heap.size + 1, 5, none⟩ (.bool true)).setCell ⟨w.heap.size + 1, 6, none⟩ (.slice p (key.size + 3) cp)) := by repeat (first | with_reducible exact Kept.refl _ _ | with_reducible refine Kept.set1 ?_ _ _)
  refine bodyPost_ret (results_upd rfl _ _ _ #[.int .i64 3, .string key, .int .i64 (X : Int), .int .i64 (Y : Int), .bool false, .bool true, .slice p (key.size + 3) cp] rfl rfl (heap_set (heap_set (heap_set (heap_set (heap_set (heap_set (heap_set H5.out.2.1 0 _) 1 _) 2 _) 3 _) 4 _) 5 _) 6 _)) rfl ⟨p, cp, rfl, H5.out.2.2.2.2.kept0 KK (fun h0 q hq z => ?_), H5.out.2.2.2.1.trans KK (fun j hj z => by have z : j = w.heap.size + 1 := z; omega)⟩
  obtain ⟨b5, o5, e5, hc5⟩ := H5.out.2.2.2.2.cells h0
  have z : q.block = w.heap.size + 1 := z
  rw [hq] at e5
  have e5 := Option.some.inj e5
  rw [e5] at z
  have z : b5 = w.heap.size + 1 := z
  have := hc5 0 h0
  rw [z, cell_of_row w5 (w.heap.size + 1) _ _ 44 (0, 0) H5.out.2.1] at this
  exact no_byte39 _ _ this
/-- update. -/
theorem update (mk : Int) (mf mb : Bool) (mc ml : Int) (w : World) : Calls Tryz.prog 28 #[.agg #[.int .i64 mk, .bool mf, .bool mb, .int .i64 mc, .int .i64 ml]] w fun o w' => ∃ (u : Upd) (l : List Nat), o = .returned u.val ∧ u.key = key3 mk ∧ (u.x, u.y) = tag60 mc ml ∧ u.kind = (if mb = true then 3 else if mf = true then 2 else 1) ∧ u.fin = (mb && mf) ∧ u.has = mb ∧ Reads w' u.a u.n u.c l ∧ u.n ≤ 5 ∧ (l = if mb = true ∨ mf = false then sb (key3 mk) ++ [(mc % 12 + 1).toNat, (ml % 5 + 1).toNat, 0] else []) ∧ Kept (fun _ => False) w w' := by
  have a0 := Int.emod_nonneg mc (show (12 : Int) ≠ 0 by omega)
  have a1 := Int.emod_lt_of_pos mc (show (0 : Int) < 12 by omega)
  have b0 := Int.emod_nonneg ml (show (5 : Int) ≠ 0 by omega)
  have b1 := Int.emod_lt_of_pos ml (show (0 : Int) < 5 by omega)
  obtain ⟨X, hX⟩ : ∃ X : Nat, mc % 12 + 1 = (X : Int) := ⟨(mc % 12 + 1).toNat, by omega⟩
  obtain ⟨Y, hY⟩ : ∃ Y : Nat, ml % 5 + 1 = (Y : Int) := ⟨(ml % 5 + 1).toNat, by omega⟩
  have hx : X ≤ 12 := by omega
  have hy : Y ≤ 5 := by omega
  have hk := key3_size mk
  have et : ((X : Int), (Y : Int)) = tag60 mc ml := by unfold tag60; rw [hX, hY]
  have eX : (mc % 12 + 1).toNat = X := by omega
  have eY : (ml % 5 + 1).toNat = Y := by omega
  rw [eX, eY]
  cases mb
  · cases mf
    · refine (upd_pre mk mc ml X Y w hX hY hx hy).mono ?_
      rintro o w' ⟨p, cp, rfl, rd, K⟩
      exact ⟨⟨1, key3 mk, X, Y, false, false, p, (key3 mk).size + 3, cp⟩, _, rfl, rfl, et, rfl, rfl, rfl, rd, by show (key3 mk).size + 3 ≤ 5; omega, rfl, K⟩
    · refine (upd_fin mk mc ml X Y w hX hY hx hy).mono ?_
      rintro o w' ⟨rfl, K⟩
      exact ⟨⟨2, key3 mk, X, Y, false, false, none, 0, 0⟩, [], rfl, rfl, et, rfl, rfl, rfl, Reads.nil _, by show 0 ≤ 5; omega, rfl, K⟩
  · cases mf
    · refine (upd_bothF mk mc ml X Y w hX hY hx hy).mono ?_
      rintro o w' ⟨p, cp, rfl, rd, K⟩
      exact ⟨⟨3, key3 mk, X, Y, false, true, p, (key3 mk).size + 3, cp⟩, _, rfl, rfl, et, rfl, rfl, rfl, rd, by show (key3 mk).size + 3 ≤ 5; omega, rfl, K⟩
    · refine (upd_bothT mk mc ml X Y w hX hY hx hy).mono ?_
      rintro o w' ⟨p, cp, rfl, rd, K⟩
      exact ⟨⟨3, key3 mk, X, Y, true, true, p, (key3 mk).size + 3, cp⟩, _, rfl, rfl, et, rfl, rfl, rfl, rd, by show (key3 mk).size + 3 ≤ 5; omega, rfl, K⟩
end Go.Proofs.YtojepeefphbekaaGreat
