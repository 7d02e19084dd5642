import Derived.Test.YtginpoofeliimaaHSmall
namespace Go.Proofs.Ytginpoofeliimaa
open Go.RowKit 

/-- A call that is made. -/
structure Made (cl : Cl) (w : World) (m : Cm) (w' : World) : Prop where
  cl : m.cl = cl
  rd : Reads w' m.va m.vn m.vc m.val
  k : Kept (fun _ => False) w w'
def RetC (Q : Cm → World → Prop) (o : Ending) (w : World) : Prop := ∃ m : Cm, o = .returned m.agg ∧ Q m w
theorem reads_set {w : World} {B : Nat} {a : Option Addr} {n c : Nat} {l : List Nat} (r : Reads w a n c l) (hb : ∀ p : Addr, a = some p → p.block ≠ B) (i : Nat) (v : Value) : Reads (w.setCell ⟨B, i, none⟩ v) a n c l :=
  Reads.kept (S := fun j => j = B) ((Kept.refl (fun j => j = B) w).setCell (p := ⟨B, i, none⟩) (fun _ => rfl) v) r (fun p hp z => hb p hp z)
theorem kept_set {w w' : World} (K : Kept (fun _ => False) w w') {B : Nat} (hb : w.heap.size ≤ B) (i : Nat) (v : Value) : Kept (fun _ => False) w (w'.setCell ⟨B, i, none⟩ v) := K.setCell (p := ⟨B, i, none⟩) (fun z => by have z : B < w.heap.size := z; omega) v
set_option maxRecDepth 100000 in
theorem putC (s : ByteArray) (f t : Int) (w : World) (hs : s.size ≤ 64) : Calls Try.prog 9 #[.string s, .int .i64 f, .int .i64 t] w (RetC (Made ⟨true, decide (t < 0), f, t, 0, sb s⟩ w)) := by
  obtain ⟨W, hW⟩ : ∃ W, W = w.alloc (.cells #[.int .i64 0, .int .i64 0, .bool false, .string (ByteArray.mk #[]), .slice none 0 0, .int .i64 0, .int .i64 0, .int .i64 0, .bool false, .int .i64 0, .int .i64 0] 33) := ⟨_, rfl⟩
  have KZ : Kept (fun _ => False) w W := by rw [hW]; exact (Kept.refl _ _).alloc _
  obtain ⟨c, W1, hr, rd, K1, _⟩ := convert_bytes s W (by omega)
  have b1 : W1.heap[w.heap.size]? = some (.cells #[.int .i64 0, .int .i64 0, .bool false, .string (ByteArray.mk #[]), .slice none 0 0, .int .i64 0, .int .i64 0, .int .i64 0, .bool false, .int .i64 0, .int .i64 0] 33 (0, 0)) := K1.get (by rw [hW]; exact alloc_new _ _) (fun z => z)
  have EW : Hid (W = w.alloc (.cells #[.int .i64 0, .int .i64 0, .bool false, .string (ByteArray.mk #[]), .slice none 0 0, .int .i64 0, .int .i64 0, .int .i64 0, .bool false, .int .i64 0, .int .i64 0] 33)) := hW
  obtain ⟨B, hB⟩ : ∃ B, B = w.heap.size := ⟨_, rfl⟩
  obtain ⟨V, hV⟩ : ∃ V, V = W.heap.size := ⟨_, rfl⟩
  have B1 : Hid (Reads W1 (some ⟨V, 0, none⟩) s.size c (sb s) ∧ Kept (fun _ => False) w W1 ∧ B = w.heap.size ∧ B < V ∧ V = W.heap.size) := ⟨by rw [hV]; exact rd, KZ.trans K1 (fun _ _ z => z), hB, by rw [hB, hV, hW]; simp, hV⟩
  rw [← hB] at b1
  rw [← hV] at hr
  have c0 := cell_blk b1 0 (v := .int .i64 0) rfl
  have f0 := soft_blk b1 0
  have c1 := cell_blk b1 1 (v := .int .i64 0) rfl
  have f1 := soft_blk b1 1
  have c2 := cell_blk b1 2 (v := .bool false) rfl
  have f2 := soft_blk b1 2
  have c3 := cell_blk b1 3 (v := .string (ByteArray.mk #[])) rfl
  have f3 := soft_blk b1 3
  have c4 := cell_blk b1 4 (v := .slice none 0 0) rfl
  have f4 := soft_blk b1 4
  have c5 := cell_blk b1 5 (v := .int .i64 0) rfl
  have f5 := soft_blk b1 5
  have c6 := cell_blk b1 6 (v := .int .i64 0) rfl
  have f6 := soft_blk b1 6
  have c7 := cell_blk b1 7 (v := .int .i64 0) rfl
  have f7 := soft_blk b1 7
  have c8 := cell_blk b1 8 (v := .bool false) rfl
  have f8 := soft_blk b1 8
  have c9 := cell_blk b1 9 (v := .int .i64 0) rfl
  have f9 := soft_blk b1 9
  have c10 := cell_blk b1 10 (v := .int .i64 0) rfl
  have f10 := soft_blk b1 10
  clear hW KZ rd K1 b1 hB hV
  go_enter Try.func9, Try.ntmps9
  go_upto_region 1 with fail
  rw [← EW.out, ← B1.out.2.2.1]
  go_wp2_with fail
  refine bodyPost_ret (v := .agg #[.int .i64 0, .int .i64 0, .bool true, .string (ByteArray.mk #[107]), .slice (some ⟨V, 0, none⟩) s.size c, .int .i64 0, .int .i64 f, .int .i64 t, .bool (decide (t < 0)), .int .i64 0, .int .i64 0]) (by simp [results, go_sem, c0, c1, c2, c3, c4, c5, c6, c7, c8, c9, c10]) rfl ?_
  refine ⟨⟨0, 0, true, ⟨#[107]⟩, some ⟨V, 0, none⟩, s.size, c, 0, f, t, decide (t < 0), 0, 0, sb s⟩, rfl, rfl, ?_, ?_⟩
  · have hb : ∀ p : Addr, (some ⟨V, 0, none⟩ : Option Addr) = some p → p.block ≠ B := fun p hp => by
      injection hp with hp
      subst hp
      have := B1.out.2.2.2.1
      show V ≠ B
      omega
    exact reads_set (reads_set (reads_set (reads_set (reads_set (reads_set (reads_set (reads_set (reads_set (reads_set (reads_set B1.out.1 hb 0 _) hb _ _) hb _ _) hb _ _) hb _ _) hb _ _) hb _ _) hb _ _) hb _ _) hb _ _) hb _ _
  · have lb : w.heap.size ≤ B := Nat.le_of_eq B1.out.2.2.1.symm
    exact kept_set (kept_set (kept_set (kept_set (kept_set (kept_set (kept_set (kept_set (kept_set (kept_set (kept_set B1.out.2.1 lb 0 _) lb _ _) lb _ _) lb _ _) lb _ _) lb _ _) lb _ _) lb _ _) lb _ _) lb _ _) lb _ _
end Go.Proofs.Ytginpoofeliimaa
