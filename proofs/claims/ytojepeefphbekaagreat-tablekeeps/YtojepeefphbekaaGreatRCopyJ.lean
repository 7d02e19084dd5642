import Derived.Test.YtojepeefphbekaaGreatRowCJ
import Derived.Shelf.SlMaps.Clone
import Derived.Test.YtojepeefphbekaaGreatProg
import Derived.Test.YtojepeefphbekaaGreatInv
namespace Go.Proofs.YtojepeefphbekaaGreat
open Go.RowKit 

set_option maxRecDepth 100000 in
set_option maxHeartbeats 2000000 in
/-- From. -/
theorem sFrom (B : Nat) (q : Option Addr) (len cap : Nat) (S : List (Int × Int)) (x y : Int) (w : World) (h : IsSet 142 w B q len cap S) (hS : Rising S) (hb : len * 16 ≤ 211106232532992) :
    Calls Tryz.prog 59 #[.pointer (some ⟨B, 0, none⟩), .agg #[.int .i64 x, .int .i64 y]] w fun o w' => ∃ p c, o = .returned (.slice p (len - ahead S (x, y)) c) ∧ Row w' p (len - ahead S (x, y)) c (S.drop (ahead S (x, y))) ∧ From w.heap.size p ∧ Below w.heap.size w w' := by
  obtain ⟨hl, hr, hs⟩ := h.sv.nums
  have B1 : Below w.heap.size w (w.alloc (Obj.cells #[.int .i64 x, .int .i64 y] 37)) := (Below.refl w.heap.size w).alloc (Nat.le_refl _) _
  obtain ⟨A, hA⟩ : ∃ A, ahead S (x, y) = A := ⟨_, rfl⟩
  have hAl : A ≤ len := by rw [← hA, ← hl]; exact ahead_le _ _
  have cP : Hid (∀ w1, Below w.heap.size w w1 → Calls Tryz.prog 88 #[.pointer (some ⟨B, 0, none⟩), .agg #[.int .i64 x, .int .i64 y]] w1 fun o w' => o = .returned (.int .i64 (A : Int)) ∧ Below w1.heap.size w1 w') := fun w1 b1 => by
    have := place B q len cap S x y w1 (h.sv.by b1) hS hb
    rw [hA] at this
    exact this
  rw [hA]
  obtain ⟨p0, c0, sl, _, _⟩ := row_from h.row A hAl
  have cC : Hid (∀ w1, Below w.heap.size w w1 → Calls Tryz.prog 85 #[.slice p0 (len - A) c0] w1 fun o w' => ∃ p c, o = .returned (.slice p (len - A) c) ∧ Row w' p (len - A) c (S.drop A) ∧ From w.heap.size p ∧ Below w1.heap.size w1 w') := fun w1 b1 => by
    obtain ⟨p', c', sl', r', _⟩ := row_from (h.row.by b1) A hAl
    have e := (sl w1).symm.trans (sl' w1)
    simp at e
    obtain ⟨rfl, rfl⟩ := e
    refine (clone p0 (len - A) c0 (S.drop A) w1 r'.reads r'.tight (by omega)).mono ?_
    rintro o w' ⟨p, c, rfl, R2, F2, B2⟩
    exact ⟨p, c, rfl, R2, fun k hk => Nat.le_trans b1.size (F2 k hk), B2⟩
  obtain ⟨t0, t1, _, _⟩ := (TagAt.new w x y).facts
  have sc : (w.alloc (Obj.cells #[.int .i64 x, .int .i64 y] 37)).cell? ⟨B, 0, none⟩ = some (.slice q len cap) := (h.sv.by B1).cell
  have KP : Hid (∀ w1 w2, Below w.heap.size w w1 → w1.cell? ⟨w.heap.size, 0, none⟩ = some (.int .i64 x) → w1.cell? ⟨w.heap.size, 1, none⟩ = some (.int .i64 y) → Below w1.heap.size w1 w2 → (w2.cell? ⟨B, 0, none⟩ = some (.slice q len cap) ∧ w2.cell? ⟨w.heap.size, 0, none⟩ = some (.int .i64 x) ∧ w2.cell? ⟨w.heap.size, 1, none⟩ = some (.int .i64 y)) ∧ Below w.heap.size w w2) :=
    fun w1 w2 b1 e0 e1 b2 => ⟨⟨((h.sv.by b1).by b2).cell, (b2.cell (World.block_lt_of_cell? w1 _ e0)).trans e0, (b2.cell (World.block_lt_of_cell? w1 _ e1)).trans e1⟩, b1.trans (b2.mono b1.size)⟩
  have S0 : Hid (Below w.heap.size w (w.alloc (Obj.cells #[.int .i64 x, .int .i64 y] 37)).drew) := B1.drew
  have ls := h.sv.lt
  clear hA h hS B1
  go_enter Tryz.func59, Tryz.ntmps59
  go_wp2_with fail
  go_region_held3 (fun w' => w'.cell? ⟨B, 0, none⟩ = some (.slice q len cap) ∧ w'.cell? ⟨w.heap.size, 0, none⟩ = some (.int .i64 x) ∧ w'.cell? ⟨w.heap.size, 1, none⟩ = some (.int .i64 y)) (go_keep)
    (first
      | (go_at_call 88; refine (cP.out _ S0.out).mono ?_; rintro e w2 ⟨rfl, B2⟩; obtain ⟨⟨q9, q0, q1⟩, SS⟩ := KP.out _ w2 S0.out (by first | assumption | exact t0) (by first | assumption | exact t1) B2; have SH : Hid (Below w.heap.size w w2) := SS; clear SS B2)
      | (go_at_call 85; refine (cC.out _ SH.out).mono ?_; rintro e w3 ⟨p3, c3, rfl, R3, F3, B3⟩; obtain ⟨⟨q9, q0, q1⟩, SS⟩ := KP.out _ w3 SH.out (by assumption) (by assumption) B3; have SH3 : Hid (Row w3 p3 (len - A) c3 (S.drop A) ∧ From w.heap.size p3 ∧ Below w.heap.size w w3) := ⟨R3, F3, SS⟩; clear R3 F3 B3 SS)
      | fail)
  go_wp2_with fail
  go_ret
  exact ⟨p3, c3, rfl, SH3.out⟩
end Go.Proofs.YtojepeefphbekaaGreat

/-
  maps.Clone at the map of tags, laid at this dump.
-/
namespace Go.Proofs
open Go.Shelf
def Tryz.cloneMap_ren : Go.Shelf.Ren := ⟨fun | 5 => 60 | 7 => 89 | n => n, fun | 4 => 4 | 20 => 20 | 23 => 86 | 25 => 37 | 3 => 94 | 24 => 119 | 28 => 144 | n => n, fun n => n⟩
set_option maxRecDepth 100000 in
theorem Tryz.cloneMap : Go.Proofs.SlLaysW.n5 Tryz.prog Tryz.cloneMap_ren := {
  mixed := by kernel_rfl
  f5 := ⟨Tryz.f60.name, by decide, Tryz.func60.trans (congrArg some (by kernel_rfl))⟩
  f7 := Tryz.func89.trans (congrArg some (by kernel_rfl))
  t4 := Tryz.underlying4
  a4 := Tryz.isAgg4
  z4 := Tryz.sizeOf4
  v4 := Tryz.zeroValue4
  t20 := Tryz.underlying20
  a20 := Tryz.isAgg20
  z20 := Tryz.sizeOf20
  v20 := Tryz.zeroValue20
  t23 := Tryz.underlying86
  a23 := Tryz.isAgg86
  z23 := Tryz.sizeOf86
  v23 := Tryz.zeroValue86 }
end Go.Proofs

namespace Go.Proofs.YtojepeefphbekaaGreat
open Go.RowKit 

theorem cloneM {w : World} {b n : Nat} {M : Int × Int → Option Hd} (h : TM 37 tl TFit Hd.val RH w b n M) : Calls Tryz.prog 60 #[.map (some b)] w fun o w' => ∃ nb, o = .returned (.map (some nb)) ∧ TM 37 tl TFit Hd.val RH w' nb n M ∧ w.heap.size ≤ nb ∧ Kept (fun _ => False) w w' := by
  obtain ⟨D, own, s⟩ := h
  have q := AnyW.maps_Clone_owns Tryz.cloneMap 37 RH b n D w own
  change Calls Tryz.prog 60 _ _ _ at q
  refine q.mono ?_
  rintro o w' ⟨rfl, o1, _, B⟩
  exact ⟨_, rfl, ⟨D, o1, s⟩, Nat.le_refl _, k0_of B⟩
theorem ahead_zero {S : List (Int × Int)} (hp : ∀ t ∈ S, isProper t.1 t.2 = true) : ahead S (0, 0) = 0 := by
  unfold ahead
  rw [List.countP_eq_zero]
  intro t ht
  have := hp t ht
  unfold isProper at this
  simp at this
  have : ¬ tc t (0, 0) < 0 := by
    rw [tc_lt]
    show ¬ (t.1 < 0 ∨ t.1 = 0 ∧ t.2 < 0)
    omega
  simpa using this
theorem rising_one : ∀ (l m : List (Int × Int)), Rising l → Rising m → (∀ a, a ∈ l ↔ a ∈ m) → l = m
  | [], [], _, _, _ => rfl
  | [], b :: m, _, _, h => absurd ((h b).2 List.mem_cons_self) (by simp)
  | a :: l, [], _, _, h => absurd ((h a).1 List.mem_cons_self) (by simp)
  | a :: l, b :: m, hl, hm, h => by
    unfold Rising at hl hm
    rw [List.pairwise_cons] at hl hm
    have e : a = b := by
      rcases List.mem_cons.1 ((h a).1 List.mem_cons_self) with z | z
      · exact z
      · rcases List.mem_cons.1 ((h b).2 List.mem_cons_self) with y | y
        · exact y.symm
        · exact absurd (hm.1 a z) (tc_asym _ _ (hl.1 b y))
    subst e
    have nl : a ∉ l := fun z => tc_asym _ _ (hl.1 a z) (hl.1 a z)
    have nm : a ∉ m := fun z => tc_asym _ _ (hm.1 a z) (hm.1 a z)
    congr 1
    refine rising_one l m hl.2 hm.2 (fun c => ⟨fun z => ?_, fun z => ?_⟩)
    · rcases List.mem_cons.1 ((h c).1 (List.mem_cons_of_mem _ z)) with y | y
      · subst y
        exact absurd z nl
      · exact y
    · rcases List.mem_cons.1 ((h c).2 (List.mem_cons_of_mem _ z)) with y | y
      · subst y
        exact absurd z nm
      · exact y
set_option maxRecDepth 100000 in
set_option maxHeartbeats 2000000 in
/-- A row's copy. -/
theorem rowCopy (n : Nat) (r : RK) (w : World) (h : IsRow w n r) (hp : ∀ t ∈ r.S, isProper t.1 t.2 = true) (hl : (r.len + 1) * 16 ≤ 211106232532992) : Calls Tryz.prog 34 #[.agg #[.map (some r.mb), .pointer (some ⟨r.sb, 0, none⟩)]] w fun o w' => ∃ mb sb, o = .returned (.agg #[.map (some mb), .pointer (some ⟨sb, 0, none⟩)]) ∧ Hid (∃ r' : RK, r'.mb = mb ∧ r'.sb = sb ∧ IsRow w' n r' ∧ r'.S = r.S ∧ r'.M = r.M ∧ r'.len = r.len ∧ (∀ k, r'.Uses k → w.heap.size ≤ k) ∧ Kept (fun _ => False) w w') := by
  obtain ⟨mb, sb, q, len, cap, S, M⟩ := r
  obtain ⟨W, hW⟩ : ∃ W, W = (w.alloc (.cells #[.map (some mb), .pointer (some ⟨sb, 0, none⟩)] 89)).alloc (.cells #[.map none, .pointer none] 89) := ⟨_, rfl⟩
  have KZ : Kept (fun _ => False) w W := by rw [hW]; exact ((Kept.refl _ w).alloc _).alloc _
  have H : Hid (IsRow W n ⟨mb, sb, q, len, cap, S, M⟩ ∧ W.heap[w.heap.size]? = some (.cells #[.map (some mb), .pointer (some ⟨sb, 0, none⟩)] 89 (0, 0)) ∧ W.heap[w.heap.size + 1]? = some (.cells #[.map none, .pointer none] 89 (0, 0)) ∧ Kept (fun _ => False) w W ∧ (∀ t ∈ S, isProper t.1 t.2 = true) ∧ (len + 1) * 16 ≤ 211106232532992) := by
    refine ⟨h.k0 KZ, ?_, ?_, KZ, hp, hl⟩
    · rw [hW]; exact two0 _ _ _
    · rw [hW]; exact two1 _ _ _
  have EW : Hid (W = (w.alloc (.cells #[.map (some mb), .pointer (some ⟨sb, 0, none⟩)] 89)).alloc (.cells #[.map none, .pointer none] 89)) := hW
  clear h hp hl KZ hW
  dsimp only
  go_enter Tryz.func34, Tryz.ntmps34
  go_upto_region 1 with fail
  rw [← EW.out]
  have c1 := cell_blk H.out.2.1 1 (v := .pointer (some ⟨sb, 0, none⟩)) rfl
  go_wp2_with fail
  have SF : Hid (Calls Tryz.prog 59 #[.pointer (some ⟨sb, 0, none⟩), .agg #[.int .i64 0, .int .i64 0]] W fun o w' => ∃ p c, o = .returned (.slice p len c) ∧ Row w' p len c S ∧ From W.heap.size p ∧ Below W.heap.size W w') := by
    have := sFrom sb q len cap S 0 0 W H.out.1.st H.out.1.up (by have := H.out.2.2.2.2.2; omega)
    rw [ahead_zero H.out.2.2.2.2.1] at this
    exact this
  refine SF.out.mono ?_
  rintro o w2 ⟨p2, c2, rfl, R2, F2, B2⟩
  have H2 : Hid (Row w2 p2 len c2 S ∧ Kept (fun _ => False) W w2) := ⟨R2, k0_of B2⟩
  clear R2 F2 B2 SF c1
  go_wp2_with fail
  refine (sNewSet p2 len c2 S w2 H2.out.1.reads H2.out.1.tight H.out.2.2.2.2.2).mono ?_
  rintro o w3 (⟨_, B, q', m', c', S', rfl, hs, up, hS, hB, hq, B3⟩ | ⟨⟨t, ht, hz⟩, _⟩)
  · have H3 : Hid (IsRow w3 n ⟨mb, sb, q, len, cap, S, M⟩ ∧ w3.heap[w.heap.size]? = some (.cells #[.map (some mb), .pointer (some ⟨sb, 0, none⟩)] 89 (0, 0)) ∧ w3.heap[w.heap.size + 1]? = some (.cells #[.map none, .pointer none] 89 (0, 0)) ∧ Kept (fun _ => False) w w3 ∧ IsSet 142 w3 B q' len c' S ∧ w.heap.size + 2 ≤ B ∧ From (w.heap.size + 2) q') := by
      have K3 : Kept (fun _ => False) W w3 := H2.out.2.and0 (k0_of B3)
      have e : S' = S := rising_one _ _ up H.out.1.up hS
      subst e
      have em : m' = len := hs.row.length.symm.trans H.out.1.st.row.length
      subst em
      have sz : W.heap.size = w.heap.size + 2 := by rw [EW.out]; simp
      have s2 := H2.out.2.size
      exact ⟨H.out.1.k0 K3, K3.get H.out.2.1 (fun z => z), K3.get H.out.2.2.1 (fun z => z), H.out.2.2.2.1.and0 K3, hs, by omega, fun k hk => by have := hq k hk; omega⟩
    clear hs up hS hB hq B3
    have c0 := cell_blk H3.out.2.1 0 (v := .map (some mb)) rfl
    go_wp2_with fail
    refine (cloneM H3.out.1.tm).mono ?_
    rintro o w4 ⟨nb, rfl, tm4, hn4, K4⟩
    have H4 : Hid (TM 37 tl TFit Hd.val RH w4 nb n M ∧ w4.heap[w.heap.size + 1]? = some (.cells #[.map none, .pointer none] 89 (0, 0)) ∧ Kept (fun _ => False) w w4 ∧ IsSet 142 w4 B q' len c' S ∧ w.heap.size + 2 ≤ nb) := by
      have := block_lt H3.out.2.2.1
      exact ⟨tm4, K4.get H3.out.2.2.1 (fun z => z), H3.out.2.2.2.1.and0 K4, H3.out.2.2.2.2.1.off K4 (fun z => z) (fun _ _ z => z), by omega⟩
    clear tm4 hn4 K4 c0
    have r0 := cell_blk H4.out.2.1 0 (v := .map none) rfl
    have r1 := cell_blk H4.out.2.1 1 (v := .pointer none) rfl
    have s0 := soft_blk H4.out.2.1 0
    have s1 := soft_blk H4.out.2.1 1
    go_wp2_with fail
    have K5 : Kept (fun k => k = w.heap.size + 1) w4 ((w4.setCell ⟨w.heap.size + 1, 0, none⟩ (.map (some nb))).setCell ⟨w.heap.size + 1, 1, none⟩ (.pointer (some ⟨B, 0, none⟩))) := ((Kept.refl (fun k => k = w.heap.size + 1) w4).setCell (p := ⟨w.heap.size + 1, 0, none⟩) (fun _ => rfl) _).setCell (p := ⟨w.heap.size + 1, 1, none⟩) (fun _ => rfl) _
    refine bodyPost_ret (results_row rfl _ _ _ (.map (some nb)) (.pointer (some ⟨B, 0, none⟩)) rfl (heap_set (heap_set H4.out.2.1 0 _) 1 _)) rfl ?_
    obtain ⟨k1, k2, k3, k4, k5⟩ := H4.out
    obtain ⟨_, _, _, _, _, j6, j7⟩ := H3.out
    refine ⟨nb, B, rfl, ⟨nb, B, q', len, c', S, M⟩, rfl, rfl, ⟨k1.kept K5 (fun z => by have z : nb = w.heap.size + 1 := z; omega), k4.off K5 (fun z => by have z : B = w.heap.size + 1 := z; omega) (fun k hk z => by have z : k = w.heap.size + 1 := z; have := j7 k hk; omega), H.out.1.up⟩, rfl, rfl, rfl, fun k hk => ?_, k3.trans K5 (fun j hj z => by have z : j = w.heap.size + 1 := z; omega)⟩
    rcases hk with z | z | z
    · have z : k = nb := z
      omega
    · have z : k = B := z
      omega
    · have := j7 k z
      omega
  · rw [H.out.2.2.2.2.1 t ht] at hz
    cases hz
end Go.Proofs.YtojepeefphbekaaGreat
