import Derived.Test.YtginpoofeliimaaHPut
namespace Go.Proofs.Ytginpoofeliimaa
open Go.RowKit 

set_option maxRecDepth 100000 in
theorem getC (s : ByteArray) (f t : Int) (w : World) (hs : s.size ≤ 64) (e : Bool) (he : s.toList.isEmpty = e) : Calls Try.prog 19 #[.string s, .int .i64 f, .int .i64 t] w (RetC (Made ⟨false, false, f, t, if e = true then 76 else 0, sb s⟩ w)) := by
  obtain ⟨W, hW⟩ : ∃ W, W = w.alloc (.cells #[.int .i64 0, .int .i64 0, .bool false, .string (ByteArray.mk #[]), .slice none 0 0, .int .i64 0, .int .i64 0, .int .i64 0, .bool false, .int .i64 0, .int .i64 0] 33) := ⟨_, rfl⟩
  have KZ : Kept (fun _ => False) w W := by rw [hW]; exact (Kept.refl _ _).alloc _
  obtain ⟨c, W1, hr, rd, K1, lV⟩ := convert_bytes s W (by omega)
  obtain ⟨B, hB⟩ : ∃ B, B = w.heap.size := ⟨_, rfl⟩
  obtain ⟨V, hV⟩ : ∃ V, V = W.heap.size := ⟨_, rfl⟩
  obtain ⟨D, hD⟩ : ∃ D, D = W1.heap.size := ⟨_, rfl⟩
  obtain ⟨W2, hW2⟩ : ∃ W2, W2 = W1.alloc (.cells #[.int .i64 0, .int .i64 0, .bool false, .string (ByteArray.mk #[107]), .slice (some ⟨V, 0, none⟩) s.size c, .int .i64 0, .int .i64 f, .int .i64 t, .bool false, .int .i64 0, .int .i64 0] 33) := ⟨_, rfl⟩
  have K2 : Kept (fun _ => False) W1 W2 := by rw [hW2]; exact (Kept.refl _ _).alloc _
  have b1 : W2.heap[B]? = some (.cells #[.int .i64 0, .int .i64 0, .bool false, .string (ByteArray.mk #[]), .slice none 0 0, .int .i64 0, .int .i64 0, .int .i64 0, .bool false, .int .i64 0, .int .i64 0] 33 (0, 0)) := K2.get (K1.get (by rw [hW, hB]; exact alloc_new _ _) (fun z => z)) (fun z => z)
  have bd1 : W2.heap[D]? = some (.cells #[.int .i64 0, .int .i64 0, .bool false, .string (ByteArray.mk #[107]), .slice (some ⟨V, 0, none⟩) s.size c, .int .i64 0, .int .i64 f, .int .i64 t, .bool false, .int .i64 0, .int .i64 0] 33 (0, 0)) := by rw [hW2, hD]; exact alloc_new _ _
  have EW : Hid (W = w.alloc (.cells #[.int .i64 0, .int .i64 0, .bool false, .string (ByteArray.mk #[]), .slice none 0 0, .int .i64 0, .int .i64 0, .int .i64 0, .bool false, .int .i64 0, .int .i64 0] 33) ∧ W2 = W1.alloc (.cells #[.int .i64 0, .int .i64 0, .bool false, .string (ByteArray.mk #[107]), .slice (some ⟨V, 0, none⟩) s.size c, .int .i64 0, .int .i64 f, .int .i64 t, .bool false, .int .i64 0, .int .i64 0] 33) ∧ D = W1.heap.size) := ⟨hW, hW2, hD⟩
  rw [← hV] at lV
  have B1 : Hid (Reads W2 (some ⟨V, 0, none⟩) s.size c (sb s) ∧ Kept (fun _ => False) w W2 ∧ B = w.heap.size ∧ B < V ∧ V = W.heap.size ∧ V < D) := ⟨Reads.kept K2 (by rw [hV]; exact rd) (fun _ _ z => z), (KZ.trans K1 (fun _ _ z => z)).trans K2 (fun _ _ z => z), hB, by rw [hB, hV, hW]; simp, hV, by omega⟩
  rw [← hV] at hr
  have c0 := cell_blk b1 0 (v := .int .i64 0) rfl
  have f0 := soft_blk b1 0
  have c1 := cell_blk b1 1 (v := .int .i64 0) rfl
  have f1 := soft_blk b1 1
  have c2 := cell_blk b1 2 (v := .bool false) rfl
  have f2 := soft_blk b1 2
  have c3 := cell_blk b1 3 (v := .string (ByteArray.mk #[])) rfl
  have f3 := soft_blk b1 3
  have c4 := cell_blk b1 4 (v := .slice none 0 0) rfl
  have f4 := soft_blk b1 4
  have c5 := cell_blk b1 5 (v := .int .i64 0) rfl
  have f5 := soft_blk b1 5
  have c6 := cell_blk b1 6 (v := .int .i64 0) rfl
  have f6 := soft_blk b1 6
  have c7 := cell_blk b1 7 (v := .int .i64 0) rfl
  have f7 := soft_blk b1 7
  have c8 := cell_blk b1 8 (v := .bool false) rfl
  have f8 := soft_blk b1 8
  have c9 := cell_blk b1 9 (v := .int .i64 0) rfl
  have f9 := soft_blk b1 9
  have c10 := cell_blk b1 10 (v := .int .i64 0) rfl
  have f10 := soft_blk b1 10
  have d0 := cell_blk bd1 0 (v := .int .i64 0) rfl
  have g0 := soft_blk bd1 0
  have d1 := cell_blk bd1 1 (v := .int .i64 0) rfl
  have g1 := soft_blk bd1 1
  have d2 := cell_blk bd1 2 (v := .bool false) rfl
  have g2 := soft_blk bd1 2
  have d3 := cell_blk bd1 3 (v := .string (ByteArray.mk #[107])) rfl
  have g3 := soft_blk bd1 3
  have d4 := cell_blk bd1 4 (v := .slice (some ⟨V, 0, none⟩) s.size c) rfl
  have g4 := soft_blk bd1 4
  have d5 := cell_blk bd1 5 (v := .int .i64 0) rfl
  have g5 := soft_blk bd1 5
  have d6 := cell_blk bd1 6 (v := .int .i64 f) rfl
  have g6 := soft_blk bd1 6
  have d7 := cell_blk bd1 7 (v := .int .i64 t) rfl
  have g7 := soft_blk bd1 7
  have d8 := cell_blk bd1 8 (v := .bool false) rfl
  have g8 := soft_blk bd1 8
  have d9 := cell_blk bd1 9 (v := .int .i64 0) rfl
  have g9 := soft_blk bd1 9
  have d10 := cell_blk bd1 10 (v := .int .i64 0) rfl
  have g10 := soft_blk bd1 10
  have BD : B ≠ D := by have := B1.out; omega
  have DB : D ≠ B := fun z => BD z.symm
  clear hW KZ rd K1 b1 bd1 hB hV hW2 hD K2 lV
  have hb : Hid (∀ p : Addr, (some ⟨V, 0, none⟩ : Option Addr) = some p → p.block ≠ B) := fun p hp => by
    injection hp with hp
    subst hp
    have := B1.out.2.2.2.1
    show V ≠ B
    omega
  have hd : Hid (∀ p : Addr, (some ⟨V, 0, none⟩ : Option Addr) = some p → p.block ≠ D) := fun p hp => by
    injection hp with hp
    subst hp
    have := B1.out.2.2.2.2
    show V ≠ D
    omega
  go_enter Try.func19, Try.ntmps19
  go_upto_region 1 with fail
  rw [← EW.out.1, ← B1.out.2.2.1]
  go_upto_region 2 with fail
  rw [← EW.out.2.1, ← EW.out.2.2]
  cases e
  · go_wp2_with fail
    have hb := hb.out
    have lb : w.heap.size ≤ B := Nat.le_of_eq B1.out.2.2.1.symm
    refine bodyPost_ret (v := .agg #[.int .i64 0, .int .i64 0, .bool false, .string (ByteArray.mk #[107]), .slice (some ⟨V, 0, none⟩) s.size c, .int .i64 0, .int .i64 f, .int .i64 t, .bool false, .int .i64 0, .int .i64 0]) (by simp [results, go_sem, c0, c1, c2, c3, c4, c5, c6, c7, c8, c9, c10]) rfl ?_
    refine ⟨⟨0, 0, false, ⟨#[107]⟩, some ⟨V, 0, none⟩, s.size, c, 0, f, t, false, 0, 0, sb s⟩, rfl, rfl, ?_, ?_⟩
    · exact reads_set (reads_set (reads_set (reads_set (reads_set (reads_set (reads_set (reads_set (reads_set (reads_set (reads_set B1.out.1 hb 0 _) hb _ _) hb _ _) hb _ _) hb _ _) hb _ _) hb _ _) hb _ _) hb _ _) hb _ _) hb _ _
    · exact kept_set (kept_set (kept_set (kept_set (kept_set (kept_set (kept_set (kept_set (kept_set (kept_set (kept_set B1.out.2.1 lb 0 _) lb _ _) lb _ _) lb _ _) lb _ _) lb _ _) lb _ _) lb _ _) lb _ _) lb _ _) lb _ _
  · go_wp2_with fail
    have hb := hb.out
    have hd := hd.out
    have lb : w.heap.size ≤ B := Nat.le_of_eq B1.out.2.2.1.symm
    have ld : w.heap.size ≤ D := by have := B1.out; omega
    refine bodyPost_ret (v := .agg #[.int .i64 0, .int .i64 0, .bool false, .string (ByteArray.mk #[107]), .slice (some ⟨V, 0, none⟩) s.size c, .int .i64 76, .int .i64 f, .int .i64 t, .bool false, .int .i64 0, .int .i64 0]) (by simp [results, go_sem, c0, c1, c2, c3, c4, c5, c6, c7, c8, c9, c10]) rfl ?_
    refine ⟨⟨0, 0, false, ⟨#[107]⟩, some ⟨V, 0, none⟩, s.size, c, 76, f, t, false, 0, 0, sb s⟩, rfl, rfl, ?_, ?_⟩
    · exact reads_set (reads_set (reads_set (reads_set (reads_set (reads_set (reads_set (reads_set (reads_set (reads_set (reads_set (reads_set B1.out.1 hd 5 _) hb 0 _) hb _ _) hb _ _) hb _ _) hb _ _) hb _ _) hb _ _) hb _ _) hb _ _) hb _ _) hb _ _
    · exact kept_set (kept_set (kept_set (kept_set (kept_set (kept_set (kept_set (kept_set (kept_set (kept_set (kept_set (kept_set B1.out.2.1 ld 5 _) lb 0 _) lb _ _) lb _ _) lb _ _) lb _ _) lb _ _) lb _ _) lb _ _) lb _ _) lb _ _) lb _ _
end Go.Proofs.Ytginpoofeliimaa
