import Derived.Test.YtojepeefphbekabGreatKeysJ
import Derived.Test.YtojepeefphbekabGreatMapG
namespace Go.Proofs.YtojepeefphbekabGreat
open Go.RowKit

theorem two0 (w : World) (o1 o2 : Obj) : ((w.alloc o1).alloc o2).heap[w.heap.size]? = some o1 := (Below.heap_alloc (w.alloc o1) o2 w.heap.size (by simp)).trans (heap_alloc_new w o1)
theorem two1 (w : World) (o1 o2 : Obj) : ((w.alloc o1).alloc o2).heap[w.heap.size + 1]? = some o2 := by
  have := heap_alloc_new (w.alloc o1) o2
  simpa using this
theorem high_none (z : Int) (w : World) : Calls Tryz.prog 48 #[.pointer none, .int .i64 z] w fun o w' => o = .returned (.tuple #[.agg #[.int .i64 0, .int .i64 0], .int .i64 0]) ∧ Below w.heap.size w w' := by
  have BH : Hid (Below w.heap.size w (w.alloc (Obj.cells #[.int .i64 0, .int .i64 0] 31))) := (Below.refl w.heap.size w).alloc (Nat.le_refl _) _
  have TH : Hid (TagAt (w.alloc (Obj.cells #[.int .i64 0, .int .i64 0] 31)) w.heap.size 0 0) := TagAt.new w 0 0
  go_enter Tryz.func48, Tryz.ntmps48
  go_wp2_with fail
  exact bodyPost_ret (results_tag_tmp rfl _ _ _ 0 0 rfl TH.out) rfl ⟨rfl, BH.out⟩
/-- The z-th highest, the initial tag if there are not so many. -/
def floorT (S : List (Int × Int)) (z : Int) : Int × Int := if 0 ≤ z ∧ z < S.length then S.getD (S.length - 1 - z.toNat) (0, 0) else (0, 0)
/-- A pointer to a set, or none. -/
def pv (p : Option Nat) : Value := .pointer (p.map fun b => ⟨b, 0, none⟩)
def HasS (w : World) (p : Option Nat) (S : List (Int × Int)) : Prop := (p = none ∧ S = []) ∨ ∃ sb q len cap, p = some sb ∧ SV w sb 105 q len cap S ∧ len * 16 ≤ 211106232532992
theorem HasS.k0 {w w' : World} {p : Option Nat} {S : List (Int × Int)} (h : HasS w p S) (K : Kept (fun _ => False) w w') : HasS w' p S := by
  rcases h with h | ⟨sb, q, len, cap, h1, h2, h3⟩
  · exact .inl h
  · exact .inr ⟨sb, q, len, cap, h1, h2.by ⟨K.os, K.tape, K.output, K.size, fun k hk => K.block k hk (fun z => z)⟩, h3⟩
theorem highAny (P : Value) (p : Option Nat) (hP : P = pv p) (S : List (Int × Int)) (z : Int) (w : World) (h : HasS w p S) : Calls Tryz.prog 48 #[P, .int .i64 z] w fun o w' => ∃ x y e : Int, o = .returned (.tuple #[.agg #[.int .i64 x, .int .i64 y], .int .i64 e]) ∧ floorT S z = (x, y) ∧ Kept (fun _ => False) w w' := by
  subst hP
  rcases h with ⟨rfl, rfl⟩ | ⟨sb, q, len, cap, rfl, h2, h3⟩
  · refine (high_none z w).mono ?_
    rintro o w' ⟨rfl, B⟩
    have e : floorT [] z = (0, 0) := by unfold floorT; split <;> rfl
    exact ⟨0, 0, 0, rfl, e, k0_of B⟩
  · refine (sHigh sb q len cap S z w h2 h3).mono ?_
    rintro o w' ⟨x, y, c, rfl, hs, B⟩
    have e : floorT S z = (x, y) := by
      unfold floorT
      rcases hs with ⟨a1, a2, a3, _⟩ | ⟨a1, rfl, rfl, _⟩
      · rw [if_pos ⟨a1, a2⟩]; exact a3
      · rw [if_neg a1]
    exact ⟨x, y, c, rfl, e, k0_of B⟩
theorem rFloor (m P : Value) (p : Option Nat) (hP : P = pv p) (S : List (Int × Int)) (d : Int) (w : World) (hm : ∃ b, m = .map b) (h : HasS w p S) : Calls Tryz.prog 33 #[.agg #[m, P], .int .i64 d] w fun o w' => ∃ x y : Int, o = .returned (.agg #[.int .i64 x, .int .i64 y]) ∧ floorT S d = (x, y) ∧ Kept (fun _ => False) w w' := by
  have HP : Hid (P = pv p) := hP
  obtain ⟨b, rfl⟩ := hm
  obtain ⟨pp, hpp⟩ : ∃ pp, P = .pointer pp := ⟨_, hP⟩
  subst hpp
  have KZ : Kept (fun _ => False) w ((w.alloc (.cells #[.map b, .pointer pp] 60)).alloc (.cells #[.int .i64 0, .int .i64 0] 31)) := ((Kept.refl _ w).alloc _).alloc _
  obtain ⟨W, hW⟩ : ∃ W, W = (w.alloc (.cells #[.map b, .pointer pp] 60)).alloc (.cells #[.int .i64 0, .int .i64 0] 31) := ⟨_, rfl⟩
  have T1 : TagAt W (w.heap.size + 1) 0 0 := by rw [hW]; have := TagAt.new (w.alloc (.cells #[.map b, .pointer pp] 60)) 0 0; simpa using this
  have H : Hid (HasS W p S ∧ TagAt W (w.heap.size + 1) 0 0 ∧ Kept (fun _ => False) w W) := by rw [hW] at T1 ⊢; exact ⟨h.k0 KZ, T1, KZ⟩
  have c1 : W.cell? ⟨w.heap.size, 1, none⟩ = some (.pointer pp) := by rw [hW]; simp
  have EW : Hid (W = (w.alloc (.cells #[.map b, .pointer pp] 60)).alloc (.cells #[.int .i64 0, .int .i64 0] 31)) := hW
  clear h hP KZ hW T1
  go_enter Tryz.func33, Tryz.ntmps33
  go_upto_region 1 with fail
  rw [← EW.out]
  go_wp2_with fail
  refine (highAny (.pointer pp) p HP.out S d W H.out.1).mono ?_
  rintro o w2 ⟨x, y, e, rfl, hf, K2⟩
  have H2 : Hid (TagAt w2 (w.heap.size + 1) 0 0 ∧ Kept (fun _ => False) w w2 ∧ floorT S d = (x, y)) := ⟨⟨K2.get H.out.2.1.blk (fun z => z)⟩, H.out.2.2.and0 K2, hf⟩
  have l2 := H2.out.1.lt
  obtain ⟨t0, t1, f0, f1⟩ := H2.out.1.facts
  clear hf K2 c1
  go_wp2_with fail
  exact bodyPost_ret (results_tag rfl _ _ _ x y rfl (((H2.out.1.set0 _).set1 _).alloc _)) rfl ⟨x, y, rfl, H2.out.2.2, ((H2.out.2.1.setCell (p := ⟨w.heap.size + 1, 0, none⟩) (fun z => by simp at z; omega) _).setCell (p := ⟨w.heap.size + 1, 1, none⟩) (fun z => by simp at z; omega) _).alloc _⟩
theorem rTop (m P : Value) (p : Option Nat) (hP : P = pv p) (S : List (Int × Int)) (w : World) (hm : ∃ b, m = .map b) (h : HasS w p S) : Calls Tryz.prog 31 #[.agg #[m, P]] w fun o w' => ∃ x y : Int, o = .returned (.agg #[.int .i64 x, .int .i64 y]) ∧ floorT S 0 = (x, y) ∧ Kept (fun _ => False) w w' := by
  have HP : Hid (P = pv p) := hP
  obtain ⟨b, rfl⟩ := hm
  obtain ⟨pp, hpp⟩ : ∃ pp, P = .pointer pp := ⟨_, hP⟩
  subst hpp
  have KZ : Kept (fun _ => False) w ((w.alloc (.cells #[.map b, .pointer pp] 60)).alloc (.cells #[.int .i64 0, .int .i64 0] 31)) := ((Kept.refl _ w).alloc _).alloc _
  obtain ⟨W, hW⟩ : ∃ W, W = (w.alloc (.cells #[.map b, .pointer pp] 60)).alloc (.cells #[.int .i64 0, .int .i64 0] 31) := ⟨_, rfl⟩
  have T1 : TagAt W (w.heap.size + 1) 0 0 := by rw [hW]; have := TagAt.new (w.alloc (.cells #[.map b, .pointer pp] 60)) 0 0; simpa using this
  have H : Hid (HasS W p S ∧ TagAt W (w.heap.size + 1) 0 0 ∧ Kept (fun _ => False) w W) := by rw [hW] at T1 ⊢; exact ⟨h.k0 KZ, T1, KZ⟩
  have c1 : W.cell? ⟨w.heap.size, 1, none⟩ = some (.pointer pp) := by rw [hW]; simp
  have EW : Hid (W = (w.alloc (.cells #[.map b, .pointer pp] 60)).alloc (.cells #[.int .i64 0, .int .i64 0] 31)) := hW
  clear h hP KZ hW T1
  go_enter Tryz.func31, Tryz.ntmps31
  go_upto_region 1 with fail
  rw [← EW.out]
  go_wp2_with fail
  refine (highAny (.pointer pp) p HP.out S 0 W H.out.1).mono ?_
  rintro o w2 ⟨x, y, e, rfl, hf, K2⟩
  have H2 : Hid (TagAt w2 (w.heap.size + 1) 0 0 ∧ Kept (fun _ => False) w w2 ∧ floorT S 0 = (x, y)) := ⟨⟨K2.get H.out.2.1.blk (fun z => z)⟩, H.out.2.2.and0 K2, hf⟩
  have l2 := H2.out.1.lt
  obtain ⟨t0, t1, f0, f1⟩ := H2.out.1.facts
  clear hf K2 c1
  go_wp2_with fail
  exact bodyPost_ret (results_tag rfl _ _ _ x y rfl (((H2.out.1.set0 _).set1 _).alloc _)) rfl ⟨x, y, rfl, H2.out.2.2, ((H2.out.2.1.setCell (p := ⟨w.heap.size + 1, 0, none⟩) (fun z => by simp at z; omega) _).setCell (p := ⟨w.heap.size + 1, 1, none⟩) (fun z => by simp at z; omega) _).alloc _⟩
set_option maxHeartbeats 1000000 in
theorem mayBe (u : Upd) (w : World) : Calls Tryz.prog 20 #[u.val] w fun z w' => z = .returned (.bool u.may) ∧ Kept (fun _ => False) w w' := by
  obtain ⟨kd, key, x, y, fin, has, a, n, c⟩ := u
  obtain ⟨W, hW⟩ : ∃ W, W = (w.alloc (.cells #[.int .i64 kd, .string key, .int .i64 x, .int .i64 y, .bool fin, .bool has, .slice a n c] 36)).alloc (.cells #[.int .i64 x, .int .i64 y, .bool fin, .bool has, .slice a n c] 34) := ⟨_, rfl⟩
  have b1 : W.heap[w.heap.size]? = some (.cells #[.int .i64 kd, .string key, .int .i64 x, .int .i64 y, .bool fin, .bool has, .slice a n c] 36 (0, 0)) := by rw [hW]; exact two0 _ _ _
  have b2 : W.heap[w.heap.size + 1]? = some (.cells #[.int .i64 x, .int .i64 y, .bool fin, .bool has, .slice a n c] 34 (0, 0)) := by rw [hW]; exact two1 _ _ _
  have H : Hid (Kept (fun _ => False) w W) := by rw [hW]; exact ((Kept.refl _ w).alloc _).alloc _
  have EW : Hid (W = (w.alloc (.cells #[.int .i64 kd, .string key, .int .i64 x, .int .i64 y, .bool fin, .bool has, .slice a n c] 36)).alloc (.cells #[.int .i64 x, .int .i64 y, .bool fin, .bool has, .slice a n c] 34)) := hW
  have HB : Hid (W.heap[w.heap.size]? = some (.cells #[.int .i64 kd, .string key, .int .i64 x, .int .i64 y, .bool fin, .bool has, .slice a n c] 36 (0, 0)) ∧ W.heap[w.heap.size + 1]? = some (.cells #[.int .i64 x, .int .i64 y, .bool fin, .bool has, .slice a n c] 34 (0, 0))) := ⟨b1, b2⟩
  have c0 := cell_blk b1 1 (v := .string key) rfl
  have c1 := cell_blk b2 0 (v := .int .i64 x) rfl
  have c2 := cell_blk b2 1 (v := .int .i64 y) rfl
  have FK : Hid (∀ V, Calls Tryz.prog 38 #[.agg #[.int .i64 kd, .string key, .int .i64 x, .int .i64 y, .bool fin, .bool has, .slice a n c]] V fun z w' => z = .returned (.bool (Upd.fits ⟨kd, key, x, y, fin, has, a, n, c⟩)) ∧ Kept (fun _ => False) V w') := fun V => fitsKind ⟨kd, key, x, y, fin, has, a, n, c⟩ V
  unfold Upd.may Upd.val
  dsimp only
  generalize Upd.fits ⟨kd, key, x, y, fin, has, a, n, c⟩ = ft at FK ⊢
  clear hW b1 b2
  go_enter Tryz.func20, Tryz.ntmps20
  go_upto_region 2 with fail
  rw [← EW.out]
  go_wp2_with fail
  refine (isKey key W).mono ?_
  rintro o w1 ⟨rfl, e1⟩
  subst e1
  cases hk : keyB key
  · go_wp2_with fail
    go_ret
    exact ⟨by rw [hk]; simp, H.out⟩
  · go_wp2_with fail
    refine (valid x y w1).mono ?_
    rintro o w2 ⟨rfl, B2⟩
    have K2 : Hid (Kept (fun _ => False) w w2 ∧ w2.heap[w.heap.size]? = some (.cells #[.int .i64 kd, .string key, .int .i64 x, .int .i64 y, .bool fin, .bool has, .slice a n c] 36 (0, 0)) ∧ w2.heap[w.heap.size + 1]? = some (.cells #[.int .i64 x, .int .i64 y, .bool fin, .bool has, .slice a n c] 34 (0, 0))) := ⟨H.out.and0 (k0_of B2), (k0_of B2).get HB.out.1 (fun z => z), (k0_of B2).get HB.out.2 (fun z => z)⟩
    have d1 := cell_blk K2.out.2.2 0 (v := .int .i64 x) rfl
    have d2 := cell_blk K2.out.2.2 1 (v := .int .i64 y) rfl
    clear B2 c0 c1 c2
    obtain ⟨vb, hvb⟩ : ∃ vb, (isZero x y || isProper x y) = vb := ⟨_, rfl⟩
    rw [hvb]
    cases vb
    · go_wp2_with fail
      go_ret
      exact ⟨by rw [hvb]; simp, K2.out.1⟩
    · go_wp2_with fail
      refine (zero x y w2).mono ?_
      rintro o w3 ⟨rfl, B3⟩
      have K3 : Hid (Kept (fun _ => False) w w3 ∧ w3.heap[w.heap.size]? = some (.cells #[.int .i64 kd, .string key, .int .i64 x, .int .i64 y, .bool fin, .bool has, .slice a n c] 36 (0, 0)) ∧ w3.heap[w.heap.size + 1]? = some (.cells #[.int .i64 x, .int .i64 y, .bool fin, .bool has, .slice a n c] 34 (0, 0))) := ⟨K2.out.1.and0 (k0_of B3), (k0_of B3).get K2.out.2.1 (fun z => z), (k0_of B3).get K2.out.2.2 (fun z => z)⟩
      have e4 := cell_blk K3.out.2.2 4 (v := .slice a n c) rfl
      have g0 := cell_blk K3.out.2.1 0 (v := .int .i64 kd) rfl
      have g1 := cell_blk K3.out.2.1 1 (v := .string key) rfl
      have g2 := cell_blk K3.out.2.1 2 (v := .int .i64 x) rfl
      have g3 := cell_blk K3.out.2.1 3 (v := .int .i64 y) rfl
      have g4 := cell_blk K3.out.2.1 4 (v := .bool fin) rfl
      have g5 := cell_blk K3.out.2.1 5 (v := .bool has) rfl
      have g6 := cell_blk K3.out.2.1 6 (v := .slice a n c) rfl
      clear B3 d1 d2
      obtain ⟨zb, hzb⟩ : ∃ zb, isZero x y = zb := ⟨_, rfl⟩
      rw [hzb]
      cases zb
      · by_cases hn : (n : Int) ≤ 65540
        · go_wp2_with fail
          refine (FK.out w3).mono ?_
          rintro o w4 ⟨rfl, K4⟩
          have H4 : Hid (Kept (fun _ => False) w w4) := K3.out.1.and0 K4
          clear K4
          go_wp2_with fail
          go_ret
          exact ⟨by rw [hk, hvb, hzb]; simp; omega, H4.out⟩
        · go_wp2_with fail
          go_ret
          have hn' : ¬ n ≤ 65540 := by omega
          exact ⟨by simp [hn'], K3.out.1⟩
      · go_wp2_with fail
        go_ret
        exact ⟨by first | (rw [hk, hvb, hzb]; simp) | simp [hzb], K3.out.1⟩
end Go.Proofs.YtojepeefphbekabGreat
