import Derived.Test.YtojepeefphbekabGreatPFinJ
import Derived.Test.YtojepeefphbekabGreatPFinS
import Derived.Test.YtojepeefphbekabGreatPRef0J
namespace Go.Proofs.YtojepeefphbekabGreat
open Go.RowKit 

/-- The tag so many below the highest. -/
def nth (F : List (Int × Int)) (d : Int) : Int × Int := if d < F.length then F.getD d.toNat (0, 0) else (0, 0)
end Go.Proofs.YtojepeefphbekabGreat

namespace Go.Proofs.YtojepeefphbekabGreat
open Go.RowKit 

/-- A falling list is told by its members. -/
theorem falls_one : ∀ (F G : List (Int × Int)), Falls F → Falls G → F.Perm G → F = G
  | [], G, _, _, p => (List.nil_perm.1 p).symm
  | a :: F, [], _, _, p => absurd p.length_eq (by simp)
  | a :: F, b :: G, hF, hG, p => by
    unfold Falls at hF hG
    have e : a = b := by
      rw [List.pairwise_cons] at hF hG
      have h1 : ¬ tc a b < 0 := by
        rcases List.mem_cons.1 (p.mem_iff.2 List.mem_cons_self) with z | z
        · rw [z, tc_self]; decide
        · exact hF.1 b z
      have h2 : ¬ tc b a < 0 := by
        rcases List.mem_cons.1 (p.mem_iff.1 List.mem_cons_self) with z | z
        · rw [z, tc_self]; decide
        · exact hG.1 a z
      by_cases q : a = b
      · exact q
      · exact absurd (tc_total _ _ h1 q) h2
    subst e
    rw [List.pairwise_cons] at hF hG
    rw [falls_one F G hF.2 hG.2 (List.Perm.cons_inv p)]
/-- A key's finalized tags, the highest first. -/
def finF (key : ByteArray) (vs : List Uv) : List (Int × Int) := (fins0 key vs).mergeSort fun a b => !decide (tc a b < 0)
theorem finF_falls (key : ByteArray) (vs : List Uv) : Falls (finF key vs) := by
  have := List.pairwise_mergeSort (le := fun a b : Int × Int => !decide (tc a b < 0)) (fun a b c h1 h2 => by
    have h1 : ¬ tc a b < 0 := by simpa using h1
    have h2 : ¬ tc b c < 0 := by simpa using h2
    have := tc_le_trans c b a h2 h1
    simpa using this) (fun a b => by
    by_cases h : tc a b < 0
    · have := tc_asym _ _ h
      simp [this]
    · simp [h]) (fins0 key vs)
  unfold Falls finF
  exact this.imp (fun h => by simpa using h)
theorem finF_eq {key : ByteArray} {vs : List Uv} {F : List (Int × Int)} (h1 : Falls F) (h2 : F.Perm (fins0 key vs)) : finF key vs = F :=
  falls_one _ _ (finF_falls key vs) h1 ((List.mergeSort_perm _ _).trans h2.symm)
end Go.Proofs.YtojepeefphbekabGreat

namespace Go.Proofs.YtojepeefphbekabGreat
open Go.RowKit 

set_option maxRecDepth 100000 in
set_option maxHeartbeats 4000000 in
/-- Floor of the document's table. -/
theorem rFloorB (b0 tb : Nat) (delta : Int) (p : Option Addr) (n c : Nat) (L : List Ut) (vs : List Uv) (key : ByteArray) (w : World) (h : RTab b0 w tb delta p n c L vs) (hn : n ≤ 2199023255552) (h0 : 0 ≤ delta) : Calls Tryz.prog 16 #[.pointer (some ⟨tb, 0, none⟩), .string key] w fun o w' => ∃ x y, o = .returned (.agg #[.int .i64 x, .int .i64 y]) ∧ Hid (∃ F, Falls F ∧ F.Perm (fins0 key vs) ∧ nth F delta = (x, y) ∧ Kept (fun _ => False) w w') := by
  obtain ⟨W, hW⟩ : ∃ W, W = w.alloc (.cells #[.int .i64 0, .int .i64 0] 31) := ⟨_, rfl⟩
  have KZ : Kept (fun _ => False) w W := by rw [hW]; exact k0_alloc _ _
  have H : Hid (RTab b0 W tb delta p n c L vs ∧ TagAt W w.heap.size 0 0 ∧ Kept (fun _ => False) w W ∧ n ≤ 2199023255552 ∧ 0 ≤ delta) := ⟨h.k0 KZ, by rw [hW]; exact TagAt.new w 0 0, KZ, hn, h0⟩
  have EW : Hid (W = w.alloc (.cells #[.int .i64 0, .int .i64 0] 31)) := hW
  clear h KZ hW hn
  go_enter Tryz.func16, Tryz.ntmps16
  go_upto_region 1 with fail
  rw [← EW.out]
  go_wp2_with fail
  refine (rFinals b0 tb delta p n c L vs key W H.out.1 H.out.2.2.2.1).mono ?_
  rintro o w2 ⟨q, m, e, rfl, Q2⟩
  obtain ⟨F, fs⟩ := Q2.out
  have H2 : Hid (RTab b0 w2 tb delta p n c L vs ∧ TagAt w2 w.heap.size 0 0 ∧ Kept (fun _ => False) w w2 ∧ Fzs W w2 q m e F key vs) := ⟨H.out.1.k0 fs.kept, ⟨fs.kept.get H.out.2.1.blk (fun z => z)⟩, H.out.2.2.1.and0 fs.kept, fs⟩
  have rm := own_room fs.row
  unfold maxLen at rm
  obtain ⟨rm1, rm2⟩ := rm
  have d0 := cell_blk H2.out.1.blk 0 (v := .int .i64 delta) rfl
  obtain ⟨t0, t1, f0, f1⟩ := H2.out.2.1.facts
  clear fs Q2
  by_cases hd : (m : Int) ≤ delta
  · have hdx : ¬ delta < (m : Int) := by omega
    have E : Hid (nth F delta = (0, 0)) := show nth F delta = (0, 0) from by
      unfold nth
      rw [if_neg (by rw [H2.out.2.2.2.len]; omega)]
    go_wp2_with fail
    exact bodyPost_ret (results_tag rfl _ _ _ 0 0 rfl ((H2.out.2.1.set0 _).set1 _)) rfl ⟨0, 0, rfl, F, H2.out.2.2.2.fall, H2.out.2.2.2.mem, E.out, (H2.out.2.2.1.setCell (p := ⟨w.heap.size, 0, none⟩) (fun z => by have z : w.heap.size < w.heap.size := z; omega) _).setCell (p := ⟨w.heap.size, 1, none⟩) (fun z => by have z : w.heap.size < w.heap.size := z; omega) _⟩
  · have hd2 : delta < (m : Int) := by omega
    obtain ⟨j, hj⟩ : ∃ j : Nat, delta = (j : Int) := ⟨delta.toNat, by omega⟩
    subst hj
    obtain ⟨gb, rfl, c0, c1⟩ := own_tg H2.out.2.2.2.row H2.out.2.2.2.len (i := j) (by omega)
    obtain ⟨⟨x, y⟩, hxy⟩ : ∃ t, t = F.getD j (0, 0) := ⟨_, rfl⟩
    rw [← hxy] at c0 c1
    dsimp only at c0 c1
    have E : Hid (nth F (j : Int) = (x, y)) := show nth F (j : Int) = (x, y) from by
      unfold nth
      rw [if_pos (by rw [H2.out.2.2.2.len]; exact hd2), Int.toNat_natCast]
      exact hxy.symm
    clear hxy
    go_wp2_with fail
    exact bodyPost_ret (results_tag rfl _ _ _ x y rfl ((H2.out.2.1.set0 _).set1 _)) rfl ⟨x, y, rfl, F, H2.out.2.2.2.fall, H2.out.2.2.2.mem, E.out, (H2.out.2.2.1.setCell (p := ⟨w.heap.size, 0, none⟩) (fun z => by have z : w.heap.size < w.heap.size := z; omega) _).setCell (p := ⟨w.heap.size, 1, none⟩) (fun z => by have z : w.heap.size < w.heap.size := z; omega) _⟩
set_option maxRecDepth 100000 in
set_option maxHeartbeats 4000000 in
/-- Top of the document's table. -/
theorem rTopB (b0 tb : Nat) (delta : Int) (p : Option Addr) (n c : Nat) (L : List Ut) (vs : List Uv) (key : ByteArray) (w : World) (h : RTab b0 w tb delta p n c L vs) (hn : n ≤ 2199023255552) : Calls Tryz.prog 14 #[.pointer (some ⟨tb, 0, none⟩), .string key] w fun o w' => ∃ x y, o = .returned (.agg #[.int .i64 x, .int .i64 y]) ∧ Hid (∃ F, Falls F ∧ F.Perm (fins0 key vs) ∧ nth F 0 = (x, y) ∧ Kept (fun _ => False) w w') := by
  obtain ⟨W, hW⟩ : ∃ W, W = w.alloc (.cells #[.int .i64 0, .int .i64 0] 31) := ⟨_, rfl⟩
  have KZ : Kept (fun _ => False) w W := by rw [hW]; exact k0_alloc _ _
  have H : Hid (RTab b0 W tb delta p n c L vs ∧ TagAt W w.heap.size 0 0 ∧ Kept (fun _ => False) w W ∧ n ≤ 2199023255552) := ⟨h.k0 KZ, by rw [hW]; exact TagAt.new w 0 0, KZ, hn⟩
  have EW : Hid (W = w.alloc (.cells #[.int .i64 0, .int .i64 0] 31)) := hW
  clear h KZ hW hn
  go_enter Tryz.func14, Tryz.ntmps14
  go_upto_region 1 with fail
  rw [← EW.out]
  go_wp2_with fail
  refine (rFinals b0 tb delta p n c L vs key W H.out.1 H.out.2.2.2).mono ?_
  rintro o w2 ⟨q, m, e, rfl, Q2⟩
  obtain ⟨F, fs⟩ := Q2.out
  have H2 : Hid (TagAt w2 w.heap.size 0 0 ∧ Kept (fun _ => False) w w2 ∧ Fzs W w2 q m e F key vs) := ⟨⟨fs.kept.get H.out.2.1.blk (fun z => z)⟩, H.out.2.2.1.and0 fs.kept, fs⟩
  have rm := own_room fs.row
  unfold maxLen at rm
  obtain ⟨rm1, rm2⟩ := rm
  obtain ⟨t0, t1, f0, f1⟩ := H2.out.1.facts
  clear fs Q2
  by_cases hd : m = 0
  · subst hd
    have E : Hid (nth F 0 = (0, 0)) := show nth F 0 = (0, 0) from by
      unfold nth
      rw [if_neg (by rw [H2.out.2.2.len]; decide)]
    go_wp2_with fail
    exact bodyPost_ret (results_tag rfl _ _ _ 0 0 rfl ((H2.out.1.set0 _).set1 _)) rfl ⟨0, 0, rfl, F, H2.out.2.2.fall, H2.out.2.2.mem, E.out, (H2.out.2.1.setCell (p := ⟨w.heap.size, 0, none⟩) (fun z => by have z : w.heap.size < w.heap.size := z; omega) _).setCell (p := ⟨w.heap.size, 1, none⟩) (fun z => by have z : w.heap.size < w.heap.size := z; omega) _⟩
  · have hm : ¬ (m : Int) = 0 := by omega
    have hm2 : (0 : Int) < (m : Int) := by omega
    have hm3 : 0 < m := by omega
    obtain ⟨gb, rfl, c0, c1⟩ := own_tg H2.out.2.2.row H2.out.2.2.len (i := 0) (by omega)
    obtain ⟨⟨x, y⟩, hxy⟩ : ∃ t, t = F.getD 0 (0, 0) := ⟨_, rfl⟩
    rw [← hxy] at c0 c1
    rw [Nat.zero_mul] at c0 c1
    dsimp only at c0 c1
    have E : Hid (nth F 0 = (x, y)) := show nth F 0 = (x, y) from by
      unfold nth
      rw [if_pos (by rw [H2.out.2.2.len]; exact hm2)]
      exact hxy.symm
    clear hxy
    go_wp2_with fail
    exact bodyPost_ret (results_tag rfl _ _ _ x y rfl ((H2.out.1.set0 _).set1 _)) rfl ⟨x, y, rfl, F, H2.out.2.2.fall, H2.out.2.2.mem, E.out, (H2.out.2.1.setCell (p := ⟨w.heap.size, 0, none⟩) (fun z => by have z : w.heap.size < w.heap.size := z; omega) _).setCell (p := ⟨w.heap.size, 1, none⟩) (fun z => by have z : w.heap.size < w.heap.size := z; omega) _⟩
theorem rFloorV (b0 tb : Nat) (delta : Int) (p : Option Addr) (n c : Nat) (L : List Ut) (vs : List Uv) (key : ByteArray) (w : World) (h : RTab b0 w tb delta p n c L vs) (hn : n ≤ 2199023255552) (h0 : 0 ≤ delta) : Calls Tryz.prog 16 #[.pointer (some ⟨tb, 0, none⟩), .string key] w fun o w' => o = .returned (.agg #[.int .i64 (nth (finF key vs) delta).1, .int .i64 (nth (finF key vs) delta).2]) ∧ Kept (fun _ => False) w w' := by
  refine (rFloorB b0 tb delta p n c L vs key w h hn h0).mono ?_
  rintro o w' ⟨x, y, rfl, Q⟩
  obtain ⟨F, f1, f2, f3, K⟩ := Q.out
  rw [finF_eq f1 f2, f3]
  exact ⟨rfl, K⟩
theorem rTopV (b0 tb : Nat) (delta : Int) (p : Option Addr) (n c : Nat) (L : List Ut) (vs : List Uv) (key : ByteArray) (w : World) (h : RTab b0 w tb delta p n c L vs) (hn : n ≤ 2199023255552) : Calls Tryz.prog 14 #[.pointer (some ⟨tb, 0, none⟩), .string key] w fun o w' => o = .returned (.agg #[.int .i64 (nth (finF key vs) 0).1, .int .i64 (nth (finF key vs) 0).2]) ∧ Kept (fun _ => False) w w' := by
  refine (rTopB b0 tb delta p n c L vs key w h hn).mono ?_
  rintro o w' ⟨x, y, rfl, Q⟩
  obtain ⟨F, f1, f2, f3, K⟩ := Q.out
  rw [finF_eq f1 f2, f3]
  exact ⟨rfl, K⟩
end Go.Proofs.YtojepeefphbekabGreat

namespace Go.Proofs.YtojepeefphbekabGreat
open Go.RowKit 

end Go.Proofs.YtojepeefphbekabGreat
