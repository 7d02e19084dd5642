import Derived.Test.YtojepeefphbekaaGreatPFin
import Derived.Test.YtojepeefphbekaaGreatPPlaceJ
namespace Go.Proofs.YtojepeefphbekaaGreat
open Go.RowKit 

/-- The tag so many below the highest. -/
def nth (F : List (Int × Int)) (d : Int) : Int × Int := if d < F.length then F.getD d.toNat (0, 0) else (0, 0)
theorem rFloor_nil (key : ByteArray) (w : World) : Calls Tryz.prog 50 #[.pointer none, .string key] w fun o w' => o = .returned (.agg #[.int .i64 0, .int .i64 0]) ∧ Kept (fun _ => False) w w' := by
  obtain ⟨t0, t1, f0, f1⟩ := (TagAt.new w 0 0).facts
  have T := TagAt.new w 0 0
  go_enter Tryz.func50, Tryz.ntmps50
  go_wp2_with fail
  exact bodyPost_ret (results_tag rfl _ _ _ 0 0 rfl T) rfl ⟨rfl, k0_alloc _ _⟩
theorem rTop_nil (key : ByteArray) (w : World) : Calls Tryz.prog 49 #[.pointer none, .string key] w fun o w' => o = .returned (.agg #[.int .i64 0, .int .i64 0]) ∧ Kept (fun _ => False) w w' := by
  obtain ⟨t0, t1, f0, f1⟩ := (TagAt.new w 0 0).facts
  have T := TagAt.new w 0 0
  go_enter Tryz.func49, Tryz.ntmps49
  go_wp2_with fail
  exact bodyPost_ret (results_tag rfl _ _ _ 0 0 rfl T) rfl ⟨rfl, k0_alloc _ _⟩
set_option maxRecDepth 100000 in
set_option maxHeartbeats 4000000 in
/-- Floor of the document's table. -/
theorem rFloorB (b0 tb : Nat) (delta : Int) (p : Option Addr) (n c : Nat) (L : List Ut) (vs : List Uv) (key : ByteArray) (w : World) (h : RTab b0 w tb delta p n c L vs) (hn : n ≤ 1099511627776) (h0 : 0 ≤ delta) : Calls Tryz.prog 50 #[.pointer (some ⟨tb, 0, none⟩), .string key] w fun o w' => ∃ x y, o = .returned (.agg #[.int .i64 x, .int .i64 y]) ∧ Hid (∃ F, Falls F ∧ F.Perm (fins0 key vs) ∧ nth F delta = (x, y) ∧ Kept (fun _ => False) w w') := by
  obtain ⟨W, hW⟩ : ∃ W, W = w.alloc (.cells #[.int .i64 0, .int .i64 0] 37) := ⟨_, rfl⟩
  have KZ : Kept (fun _ => False) w W := by rw [hW]; exact k0_alloc _ _
  have H : Hid (RTab b0 W tb delta p n c L vs ∧ TagAt W w.heap.size 0 0 ∧ Kept (fun _ => False) w W ∧ n ≤ 1099511627776 ∧ 0 ≤ delta) := ⟨h.k0 KZ, by rw [hW]; exact TagAt.new w 0 0, KZ, hn, h0⟩
  have EW : Hid (W = w.alloc (.cells #[.int .i64 0, .int .i64 0] 37)) := hW
  clear h KZ hW hn
  go_enter Tryz.func50, Tryz.ntmps50
  go_upto_region 1 with fail
  rw [← EW.out]
  go_wp2_with fail
  refine (rFinalized b0 tb delta p n c L vs key W H.out.1 H.out.2.2.2.1).mono ?_
  rintro o w2 ⟨q, m, e, rfl, Q2⟩
  obtain ⟨F, fs⟩ := Q2.out
  have H2 : Hid (RTab b0 w2 tb delta p n c L vs ∧ TagAt w2 w.heap.size 0 0 ∧ Kept (fun _ => False) w w2 ∧ Fzs W w2 q m e F key vs) := ⟨H.out.1.k0 fs.kept, ⟨fs.kept.get H.out.2.1.blk (fun z => z)⟩, H.out.2.2.1.and0 fs.kept, fs⟩
  have rm := own_room fs.row
  unfold maxLen at rm
  obtain ⟨rm1, rm2⟩ := rm
  have d0 := cell_blk H2.out.1.blk 0 (v := .int .i64 delta) rfl
  obtain ⟨t0, t1, f0, f1⟩ := H2.out.2.1.facts
  clear fs Q2
  by_cases hd : (m : Int) ≤ delta
  · have E : Hid (nth F delta = (0, 0)) := show nth F delta = (0, 0) from by
      unfold nth
      rw [if_neg (by rw [H2.out.2.2.2.len]; omega)]
    go_wp2_with fail
    exact bodyPost_ret (results_tag rfl _ _ _ 0 0 rfl ((H2.out.2.1.set0 _).set1 _)) rfl ⟨0, 0, rfl, F, H2.out.2.2.2.fall, H2.out.2.2.2.mem, E.out, (H2.out.2.2.1.setCell (p := ⟨w.heap.size, 0, none⟩) (fun z => by have z : w.heap.size < w.heap.size := z; omega) _).setCell (p := ⟨w.heap.size, 1, none⟩) (fun z => by have z : w.heap.size < w.heap.size := z; omega) _⟩
  · have hd2 : delta < (m : Int) := by omega
    obtain ⟨j, hj⟩ : ∃ j : Nat, delta = (j : Int) := ⟨delta.toNat, by omega⟩
    subst hj
    obtain ⟨gb, rfl, c0, c1⟩ := own_tg H2.out.2.2.2.row H2.out.2.2.2.len (i := j) (by omega)
    obtain ⟨⟨x, y⟩, hxy⟩ : ∃ t, t = F.getD j (0, 0) := ⟨_, rfl⟩
    rw [← hxy] at c0 c1
    dsimp only at c0 c1
    have E : Hid (nth F (j : Int) = (x, y)) := show nth F (j : Int) = (x, y) from by
      unfold nth
      rw [if_pos (by rw [H2.out.2.2.2.len]; exact hd2), Int.toNat_natCast]
      exact hxy.symm
    clear hxy
    go_wp2_with fail
    exact bodyPost_ret (results_tag rfl _ _ _ x y rfl ((H2.out.2.1.set0 _).set1 _)) rfl ⟨x, y, rfl, F, H2.out.2.2.2.fall, H2.out.2.2.2.mem, E.out, (H2.out.2.2.1.setCell (p := ⟨w.heap.size, 0, none⟩) (fun z => by have z : w.heap.size < w.heap.size := z; omega) _).setCell (p := ⟨w.heap.size, 1, none⟩) (fun z => by have z : w.heap.size < w.heap.size := z; omega) _⟩
set_option maxRecDepth 100000 in
set_option maxHeartbeats 4000000 in
/-- Top of the document's table. -/
theorem rTopB (b0 tb : Nat) (delta : Int) (p : Option Addr) (n c : Nat) (L : List Ut) (vs : List Uv) (key : ByteArray) (w : World) (h : RTab b0 w tb delta p n c L vs) (hn : n ≤ 1099511627776) : Calls Tryz.prog 49 #[.pointer (some ⟨tb, 0, none⟩), .string key] w fun o w' => ∃ x y, o = .returned (.agg #[.int .i64 x, .int .i64 y]) ∧ Hid (∃ F, Falls F ∧ F.Perm (fins0 key vs) ∧ nth F 0 = (x, y) ∧ Kept (fun _ => False) w w') := by
  obtain ⟨W, hW⟩ : ∃ W, W = w.alloc (.cells #[.int .i64 0, .int .i64 0] 37) := ⟨_, rfl⟩
  have KZ : Kept (fun _ => False) w W := by rw [hW]; exact k0_alloc _ _
  have H : Hid (RTab b0 W tb delta p n c L vs ∧ TagAt W w.heap.size 0 0 ∧ Kept (fun _ => False) w W ∧ n ≤ 1099511627776) := ⟨h.k0 KZ, by rw [hW]; exact TagAt.new w 0 0, KZ, hn⟩
  have EW : Hid (W = w.alloc (.cells #[.int .i64 0, .int .i64 0] 37)) := hW
  clear h KZ hW hn
  go_enter Tryz.func49, Tryz.ntmps49
  go_upto_region 1 with fail
  rw [← EW.out]
  go_wp2_with fail
  refine (rFinalized b0 tb delta p n c L vs key W H.out.1 H.out.2.2.2).mono ?_
  rintro o w2 ⟨q, m, e, rfl, Q2⟩
  obtain ⟨F, fs⟩ := Q2.out
  have H2 : Hid (TagAt w2 w.heap.size 0 0 ∧ Kept (fun _ => False) w w2 ∧ Fzs W w2 q m e F key vs) := ⟨⟨fs.kept.get H.out.2.1.blk (fun z => z)⟩, H.out.2.2.1.and0 fs.kept, fs⟩
  have rm := own_room fs.row
  unfold maxLen at rm
  obtain ⟨rm1, rm2⟩ := rm
  obtain ⟨t0, t1, f0, f1⟩ := H2.out.1.facts
  clear fs Q2
  by_cases hd : m = 0
  · subst hd
    have E : Hid (nth F 0 = (0, 0)) := show nth F 0 = (0, 0) from by
      unfold nth
      rw [if_neg (by rw [H2.out.2.2.len]; decide)]
    go_wp2_with fail
    exact bodyPost_ret (results_tag rfl _ _ _ 0 0 rfl ((H2.out.1.set0 _).set1 _)) rfl ⟨0, 0, rfl, F, H2.out.2.2.fall, H2.out.2.2.mem, E.out, (H2.out.2.1.setCell (p := ⟨w.heap.size, 0, none⟩) (fun z => by have z : w.heap.size < w.heap.size := z; omega) _).setCell (p := ⟨w.heap.size, 1, none⟩) (fun z => by have z : w.heap.size < w.heap.size := z; omega) _⟩
  · have hm : ¬ (m : Int) = 0 := by omega
    have hm2 : (0 : Int) < (m : Int) := by omega
    have hm3 : 0 < m := by omega
    obtain ⟨gb, rfl, c0, c1⟩ := own_tg H2.out.2.2.row H2.out.2.2.len (i := 0) (by omega)
    obtain ⟨⟨x, y⟩, hxy⟩ : ∃ t, t = F.getD 0 (0, 0) := ⟨_, rfl⟩
    rw [← hxy] at c0 c1
    rw [Nat.zero_mul] at c0 c1
    dsimp only at c0 c1
    have E : Hid (nth F 0 = (x, y)) := show nth F 0 = (x, y) from by
      unfold nth
      rw [if_pos (by rw [H2.out.2.2.len]; exact hm2)]
      exact hxy.symm
    clear hxy
    go_wp2_with fail
    exact bodyPost_ret (results_tag rfl _ _ _ x y rfl ((H2.out.1.set0 _).set1 _)) rfl ⟨x, y, rfl, F, H2.out.2.2.fall, H2.out.2.2.mem, E.out, (H2.out.2.1.setCell (p := ⟨w.heap.size, 0, none⟩) (fun z => by have z : w.heap.size < w.heap.size := z; omega) _).setCell (p := ⟨w.heap.size, 1, none⟩) (fun z => by have z : w.heap.size < w.heap.size := z; omega) _⟩
end Go.Proofs.YtojepeefphbekaaGreat

namespace Go.Proofs.YtojepeefphbekaaGreat
open Go.RowKit 

set_option maxRecDepth 100000 in
set_option maxHeartbeats 4000000 in
/-- copied. -/
theorem rCopied (x y : Int) (f g : Bool) (a : Option Addr) (n c : Nat) (l : List Nat) (w : World) (r : Reads w a n c l) (hn : n ≤ 140737488355328) : Calls Tryz.prog 46 #[.agg #[.int .i64 x, .int .i64 y, .bool f, .bool g, .slice a n c]] w fun o w' => ∃ p c', o = .returned (.agg #[.int .i64 x, .int .i64 y, .bool f, .bool g, .slice p n c']) ∧ Hid (Reads w' p n c' l ∧ (∀ k, blockOf p = some k → w.heap.size ≤ k ∧ ∃ cs, w'.heap[k]? = some (.cells cs 5 (0, 0))) ∧ Kept (fun _ => False) w w') := by
  obtain ⟨W, hW⟩ : ∃ W, W = (w.alloc (.cells #[.int .i64 x, .int .i64 y, .bool f, .bool g, .slice a n c] 40)).alloc (.cells #[.int .i64 0, .int .i64 0, .bool false, .bool false, .slice none 0 0] 40) := ⟨_, rfl⟩
  have KZ : Kept (fun _ => False) w W := by rw [hW]; exact ((Kept.refl _ w).alloc _).alloc _
  have H : Hid (W.heap[w.heap.size]? = some (.cells #[.int .i64 x, .int .i64 y, .bool f, .bool g, .slice a n c] 40 (0, 0)) ∧ W.heap[w.heap.size + 1]? = some (.cells #[.int .i64 0, .int .i64 0, .bool false, .bool false, .slice none 0 0] 40 (0, 0)) ∧ Kept (fun _ => False) w W ∧ Reads W a n c l) := by
    refine ⟨?_, ?_, KZ, r.kept KZ (fun _ _ z => z)⟩
    · rw [hW]; exact two0 _ _ _
    · rw [hW]; exact two1 _ _ _
  have EW : Hid (W = (w.alloc (.cells #[.int .i64 x, .int .i64 y, .bool f, .bool g, .slice a n c] 40)).alloc (.cells #[.int .i64 0, .int .i64 0, .bool false, .bool false, .slice none 0 0] 40)) := hW
  have BL : Hid (0 + n ≤ 140737488355328) := by show 0 + n ≤ _; omega
  clear hW KZ r hn
  go_enter Tryz.func46, Tryz.ntmps46
  go_upto_region 1 with fail
  rw [← EW.out]
  have g0 := cell_blk H.out.1 4 (v := .slice a n c) rfl
  have OB : Hid (w.heap.size ≤ W.heap.size) := H.out.2.2.1.size
  have f4 := soft_blk H.out.1 4
  go_upto_region 3 with
    (first
      | (at_builtin; refine wpList_append_bytes _ rfl (.tmp 4) (.tmp 6) rfl w.heap.size (.slice none 0 0) 0 [] rfl (World.ownsRow_nil _ _ _ _) (.slice a n c) n l rfl H.out.2.2.2.src BL.out OB.out ?_; intro p2 k2 w2 ho hg nr
         have H2 : Hid (w2.heap[w.heap.size]? = some (.cells #[.int .i64 x, .int .i64 y, .bool f, .bool g, .slice a n c] 40 (0, 0)) ∧ w2.heap[w.heap.size + 1]? = some (.cells #[.int .i64 0, .int .i64 0, .bool false, .bool false, .slice none 0 0] 40 (0, 0)) ∧ Kept (fun _ => False) w w2 ∧ w2.ownsRow w.heap.size 5 1 (.slice p2 n k2) n (cellsOf l)) := by
           have K2 : Kept (fun _ => False) W w2 := (Kept.refl _ _).grown hg.out (fun k _ z => by cases z)
           have o := ho.out
           rw [Nat.zero_add, List.nil_append] at o
           exact ⟨K2.get H.out.1 (fun z => z), K2.get H.out.2.1 (fun z => z), H.out.2.2.1.and0 K2, o⟩
         have g4 := cell_blk H2.out.1 4 (v := .slice a n c) rfl
         have s4 := soft_blk H2.out.1 4
         clear ho hg nr)
      | fail)
  have K3 : Kept (fun k => k = w.heap.size) w2 (w2.setCell ⟨w.heap.size, 4, none⟩ (.slice p2 n k2)) := (Kept.refl (fun k => k = w.heap.size) w2).setCell (p := ⟨w.heap.size, 4, none⟩) (fun _ => rfl) _
  have H3 : Hid ((w2.setCell ⟨w.heap.size, 4, none⟩ (.slice p2 n k2)).heap[w.heap.size]? = some (.cells #[.int .i64 x, .int .i64 y, .bool f, .bool g, .slice p2 n k2] 40 (0, 0)) ∧ (w2.setCell ⟨w.heap.size, 4, none⟩ (.slice p2 n k2)).heap[w.heap.size + 1]? = some (.cells #[.int .i64 0, .int .i64 0, .bool false, .bool false, .slice none 0 0] 40 (0, 0)) ∧ Kept (fun _ => False) w (w2.setCell ⟨w.heap.size, 4, none⟩ (.slice p2 n k2)) ∧ (w2.setCell ⟨w.heap.size, 4, none⟩ (.slice p2 n k2)).ownsRow w.heap.size 5 1 (.slice p2 n k2) n (cellsOf l)) := by
    refine ⟨heap_set H2.out.1 4 _, K3.get H2.out.2.1 (by omega), H2.out.2.2.1.trans K3 (fun j hj z => by have z : j = w.heap.size := z; omega), K3.owns H2.out.2.2.2 (fun k hk z => ?_)⟩
    have z : k = w.heap.size := z
    obtain ⟨cs, hc⟩ := own_type H2.out.2.2.2 k (by rw [← blockOf_own]; exact hk)
    rw [z, H2.out.1] at hc
    simp at hc
  clear K3 g4 s4 g0 f4
  obtain ⟨w3, hw3⟩ : ∃ w3, w3 = w2.setCell ⟨w.heap.size, 4, none⟩ (.slice p2 n k2) := ⟨_, rfl⟩
  rw [← hw3] at H3 ⊢
  clear hw3
  have q0 := cell_blk H3.out.1 0 (v := .int .i64 x) rfl
  have q1 := cell_blk H3.out.1 1 (v := .int .i64 y) rfl
  have q2 := cell_blk H3.out.1 2 (v := .bool f) rfl
  have q3 := cell_blk H3.out.1 3 (v := .bool g) rfl
  have q4 := cell_blk H3.out.1 4 (v := .slice p2 n k2) rfl
  have r0 := cell_blk H3.out.2.1 0 (v := .int .i64 0) rfl
  have r1 := cell_blk H3.out.2.1 1 (v := .int .i64 0) rfl
  have r2 := cell_blk H3.out.2.1 2 (v := .bool false) rfl
  have r3 := cell_blk H3.out.2.1 3 (v := .bool false) rfl
  have r4 := cell_blk H3.out.2.1 4 (v := .slice none 0 0) rfl
  have s0 := soft_blk H3.out.2.1 0
  have s1 := soft_blk H3.out.2.1 1
  have s2 := soft_blk H3.out.2.1 2
  have s3 := soft_blk H3.out.2.1 3
  have s4 := soft_blk H3.out.2.1 4
  go_wp2_with fail
  have KS : Kept (fun k => k = w.heap.size + 1) w3 (((((w3.setCell ⟨w.heap.size + 1, 0, none⟩ (.int .i64 x)).setCell ⟨w.heap.size + 1, 1, none⟩ (.int .i64 y)).setCell ⟨w.heap.size + 1, 2, none⟩ (.bool f)).setCell ⟨w.heap.size + 1, 3, none⟩ (.bool g)).setCell ⟨w.heap.size + 1, 4, none⟩ (.slice p2 n k2)) := (((((Kept.refl (fun k => k = w.heap.size + 1) w3).setCell (p := ⟨w.heap.size + 1, 0, none⟩) (fun _ => rfl) _).setCell (p := ⟨w.heap.size + 1, 1, none⟩) (fun _ => rfl) _).setCell (p := ⟨w.heap.size + 1, 2, none⟩) (fun _ => rfl) _).setCell (p := ⟨w.heap.size + 1, 3, none⟩) (fun _ => rfl) _).setCell (p := ⟨w.heap.size + 1, 4, none⟩) (fun _ => rfl) _
  have ng : ∀ k, blockOf p2 = some k → ¬ k = w.heap.size + 1 := fun k hk z => by
    obtain ⟨cs, hc⟩ := own_type H3.out.2.2.2 k hk
    rw [z, H3.out.2.1] at hc
    simp at hc
  refine bodyPost_ret (results_entry rfl _ _ _ #[.int .i64 x, .int .i64 y, .bool f, .bool g, .slice p2 n k2] rfl rfl (heap_set (heap_set (heap_set (heap_set (heap_set H3.out.2.1 0 _) 1 _) 2 _) 3 _) 4 _)) rfl ⟨p2, k2, rfl, ?_, fun k hk => ?_, H3.out.2.2.1.trans KS (fun j hj z => by have z : j = w.heap.size + 1 := z; omega)⟩
  · obtain ⟨a3, cap3, e3, r3, _⟩ := owns_reads (KS.owns H3.out.2.2.2 (fun k hk => ng k (by rw [← blockOf_own]; exact hk))) H.out.2.2.2.bytes
    simp at e3
    obtain ⟨rfl, rfl⟩ := e3
    exact r3
  · obtain ⟨cs, hc⟩ := own_type H3.out.2.2.2 k hk
    exact ⟨(own_lt H3.out.2.2.2 k hk).1, cs, KS.get hc (ng k hk)⟩
end Go.Proofs.YtojepeefphbekaaGreat
