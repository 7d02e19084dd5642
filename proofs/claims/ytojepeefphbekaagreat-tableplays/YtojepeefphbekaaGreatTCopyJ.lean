import Derived.Test.YtojepeefphbekaaGreatRowDJ
import Derived.Shelf.SlMaps.Clone
import Derived.Test.YtojepeefphbekaaGreatProg
import Derived.Test.YtojepeefphbekaaGreatInv
import Derived.Test.YtojepeefphbekaaGreatUpdsJ
import Derived.Test.YtojepeefphbekaaGreatDoneJ
namespace Go.Proofs.YtojepeefphbekaaGreat
open Go.RowKit 

set_option maxRecDepth 100000 in
set_option maxHeartbeats 2000000 in
/-- From. -/
theorem sFrom (B : Nat) (q : Option Addr) (len cap : Nat) (S : List (Int × Int)) (x y : Int) (w : World) (h : IsSet 142 w B q len cap S) (hS : Rising S) (hb : len * 16 ≤ 211106232532992) :
    Calls Tryz.prog 59 #[.pointer (some ⟨B, 0, none⟩), .agg #[.int .i64 x, .int .i64 y]] w fun o w' => ∃ p c, o = .returned (.slice p (len - ahead S (x, y)) c) ∧ Row w' p (len - ahead S (x, y)) c (S.drop (ahead S (x, y))) ∧ From w.heap.size p ∧ Below w.heap.size w w' := by
  obtain ⟨hl, hr, hs⟩ := h.sv.nums
  have B1 : Below w.heap.size w (w.alloc (Obj.cells #[.int .i64 x, .int .i64 y] 37)) := (Below.refl w.heap.size w).alloc (Nat.le_refl _) _
  obtain ⟨A, hA⟩ : ∃ A, ahead S (x, y) = A := ⟨_, rfl⟩
  have hAl : A ≤ len := by rw [← hA, ← hl]; exact ahead_le _ _
  have cP : Hid (∀ w1, Below w.heap.size w w1 → Calls Tryz.prog 88 #[.pointer (some ⟨B, 0, none⟩), .agg #[.int .i64 x, .int .i64 y]] w1 fun o w' => o = .returned (.int .i64 (A : Int)) ∧ Below w1.heap.size w1 w') := fun w1 b1 => by
    have := place B q len cap S x y w1 (h.sv.by b1) hS hb
    rw [hA] at this
    exact this
  rw [hA]
  obtain ⟨p0, c0, sl, _, _⟩ := row_from h.row A hAl
  have cC : Hid (∀ w1, Below w.heap.size w w1 → Calls Tryz.prog 85 #[.slice p0 (len - A) c0] w1 fun o w' => ∃ p c, o = .returned (.slice p (len - A) c) ∧ Row w' p (len - A) c (S.drop A) ∧ From w.heap.size p ∧ Below w1.heap.size w1 w') := fun w1 b1 => by
    obtain ⟨p', c', sl', r', _⟩ := row_from (h.row.by b1) A hAl
    have e := (sl w1).symm.trans (sl' w1)
    simp at e
    obtain ⟨rfl, rfl⟩ := e
    refine (clone p0 (len - A) c0 (S.drop A) w1 r'.reads r'.tight (by omega)).mono ?_
    rintro o w' ⟨p, c, rfl, R2, F2, B2⟩
    exact ⟨p, c, rfl, R2, fun k hk => Nat.le_trans b1.size (F2 k hk), B2⟩
  obtain ⟨t0, t1, _, _⟩ := (TagAt.new w x y).facts
  have sc : (w.alloc (Obj.cells #[.int .i64 x, .int .i64 y] 37)).cell? ⟨B, 0, none⟩ = some (.slice q len cap) := (h.sv.by B1).cell
  have KP : Hid (∀ w1 w2, Below w.heap.size w w1 → w1.cell? ⟨w.heap.size, 0, none⟩ = some (.int .i64 x) → w1.cell? ⟨w.heap.size, 1, none⟩ = some (.int .i64 y) → Below w1.heap.size w1 w2 → (w2.cell? ⟨B, 0, none⟩ = some (.slice q len cap) ∧ w2.cell? ⟨w.heap.size, 0, none⟩ = some (.int .i64 x) ∧ w2.cell? ⟨w.heap.size, 1, none⟩ = some (.int .i64 y)) ∧ Below w.heap.size w w2) :=
    fun w1 w2 b1 e0 e1 b2 => ⟨⟨((h.sv.by b1).by b2).cell, (b2.cell (World.block_lt_of_cell? w1 _ e0)).trans e0, (b2.cell (World.block_lt_of_cell? w1 _ e1)).trans e1⟩, b1.trans (b2.mono b1.size)⟩
  have S0 : Hid (Below w.heap.size w (w.alloc (Obj.cells #[.int .i64 x, .int .i64 y] 37)).drew) := B1.drew
  have ls := h.sv.lt
  clear hA h hS B1
  go_enter Tryz.func59, Tryz.ntmps59
  go_wp2_with fail
  go_region_held3 (fun w' => w'.cell? ⟨B, 0, none⟩ = some (.slice q len cap) ∧ w'.cell? ⟨w.heap.size, 0, none⟩ = some (.int .i64 x) ∧ w'.cell? ⟨w.heap.size, 1, none⟩ = some (.int .i64 y)) (go_keep)
    (first
      | (go_at_call 88; refine (cP.out _ S0.out).mono ?_; rintro e w2 ⟨rfl, B2⟩; obtain ⟨⟨q9, q0, q1⟩, SS⟩ := KP.out _ w2 S0.out (by first | assumption | exact t0) (by first | assumption | exact t1) B2; have SH : Hid (Below w.heap.size w w2) := SS; clear SS B2)
      | (go_at_call 85; refine (cC.out _ SH.out).mono ?_; rintro e w3 ⟨p3, c3, rfl, R3, F3, B3⟩; obtain ⟨⟨q9, q0, q1⟩, SS⟩ := KP.out _ w3 SH.out (by assumption) (by assumption) B3; have SH3 : Hid (Row w3 p3 (len - A) c3 (S.drop A) ∧ From w.heap.size p3 ∧ Below w.heap.size w w3) := ⟨R3, F3, SS⟩; clear R3 F3 B3 SS)
      | fail)
  go_wp2_with fail
  go_ret
  exact ⟨p3, c3, rfl, SH3.out⟩
end Go.Proofs.YtojepeefphbekaaGreat

/-
  maps.Clone at the map of tags, laid at this dump.
-/
namespace Go.Proofs
open Go.Shelf
def Tryz.cloneMap_ren : Go.Shelf.Ren := ⟨fun | 5 => 60 | 7 => 89 | n => n, fun | 4 => 4 | 20 => 20 | 23 => 86 | 25 => 37 | 3 => 94 | 24 => 119 | 28 => 144 | n => n, fun n => n⟩
set_option maxRecDepth 100000 in
theorem Tryz.cloneMap : Go.Proofs.SlLaysW.n5 Tryz.prog Tryz.cloneMap_ren := {
  mixed := by kernel_rfl
  f5 := ⟨Tryz.f60.name, by decide, Tryz.func60.trans (congrArg some (by kernel_rfl))⟩
  f7 := Tryz.func89.trans (congrArg some (by kernel_rfl))
  t4 := Tryz.underlying4
  a4 := Tryz.isAgg4
  z4 := Tryz.sizeOf4
  v4 := Tryz.zeroValue4
  t20 := Tryz.underlying20
  a20 := Tryz.isAgg20
  z20 := Tryz.sizeOf20
  v20 := Tryz.zeroValue20
  t23 := Tryz.underlying86
  a23 := Tryz.isAgg86
  z23 := Tryz.sizeOf86
  v23 := Tryz.zeroValue86 }
end Go.Proofs

namespace Go.Proofs.YtojepeefphbekaaGreat
open Go.RowKit 

theorem cloneM {w : World} {b n : Nat} {M : Int × Int → Option Hd} (h : TM 37 tl TFit Hd.val RH w b n M) : Calls Tryz.prog 60 #[.map (some b)] w fun o w' => ∃ nb, o = .returned (.map (some nb)) ∧ TM 37 tl TFit Hd.val RH w' nb n M ∧ w.heap.size ≤ nb ∧ Kept (fun _ => False) w w' := by
  obtain ⟨D, own, s⟩ := h
  have q := AnyW.maps_Clone_owns Tryz.cloneMap 37 RH b n D w own
  change Calls Tryz.prog 60 _ _ _ at q
  refine q.mono ?_
  rintro o w' ⟨rfl, o1, _, B⟩
  exact ⟨_, rfl, ⟨D, o1, s⟩, Nat.le_refl _, k0_of B⟩
theorem ahead_zero {S : List (Int × Int)} (hp : ∀ t ∈ S, isProper t.1 t.2 = true) : ahead S (0, 0) = 0 := by
  unfold ahead
  rw [List.countP_eq_zero]
  intro t ht
  have := hp t ht
  unfold isProper at this
  simp at this
  have : ¬ tc t (0, 0) < 0 := by
    rw [tc_lt]
    show ¬ (t.1 < 0 ∨ t.1 = 0 ∧ t.2 < 0)
    omega
  simpa using this
theorem rising_one : ∀ (l m : List (Int × Int)), Rising l → Rising m → (∀ a, a ∈ l ↔ a ∈ m) → l = m
  | [], [], _, _, _ => rfl
  | [], b :: m, _, _, h => absurd ((h b).2 List.mem_cons_self) (by simp)
  | a :: l, [], _, _, h => absurd ((h a).1 List.mem_cons_self) (by simp)
  | a :: l, b :: m, hl, hm, h => by
    unfold Rising at hl hm
    rw [List.pairwise_cons] at hl hm
    have e : a = b := by
      rcases List.mem_cons.1 ((h a).1 List.mem_cons_self) with z | z
      · exact z
      · rcases List.mem_cons.1 ((h b).2 List.mem_cons_self) with y | y
        · exact y.symm
        · exact absurd (hm.1 a z) (tc_asym _ _ (hl.1 b y))
    subst e
    have nl : a ∉ l := fun z => tc_asym _ _ (hl.1 a z) (hl.1 a z)
    have nm : a ∉ m := fun z => tc_asym _ _ (hm.1 a z) (hm.1 a z)
    congr 1
    refine rising_one l m hl.2 hm.2 (fun c => ⟨fun z => ?_, fun z => ?_⟩)
    · rcases List.mem_cons.1 ((h c).1 (List.mem_cons_of_mem _ z)) with y | y
      · subst y
        exact absurd z nl
      · exact y
    · rcases List.mem_cons.1 ((h c).2 (List.mem_cons_of_mem _ z)) with y | y
      · subst y
        exact absurd z nm
      · exact y
set_option maxRecDepth 100000 in
set_option maxHeartbeats 2000000 in
/-- A row's copy. -/
theorem rowCopy (n : Nat) (r : RK) (w : World) (h : IsRow w n r) (hp : ∀ t ∈ r.S, isProper t.1 t.2 = true) (hl : (r.len + 1) * 16 ≤ 211106232532992) : Calls Tryz.prog 34 #[.agg #[.map (some r.mb), .pointer (some ⟨r.sb, 0, none⟩)]] w fun o w' => ∃ mb sb, o = .returned (.agg #[.map (some mb), .pointer (some ⟨sb, 0, none⟩)]) ∧ Hid (∃ r' : RK, r'.mb = mb ∧ r'.sb = sb ∧ IsRow w' n r' ∧ r'.S = r.S ∧ r'.M = r.M ∧ r'.len = r.len ∧ (∀ k, r'.Uses k → w.heap.size ≤ k) ∧ Kept (fun _ => False) w w') := by
  obtain ⟨mb, sb, q, len, cap, S, M⟩ := r
  obtain ⟨W, hW⟩ : ∃ W, W = (w.alloc (.cells #[.map (some mb), .pointer (some ⟨sb, 0, none⟩)] 89)).alloc (.cells #[.map none, .pointer none] 89) := ⟨_, rfl⟩
  have KZ : Kept (fun _ => False) w W := by rw [hW]; exact ((Kept.refl _ w).alloc _).alloc _
  have H : Hid (IsRow W n ⟨mb, sb, q, len, cap, S, M⟩ ∧ W.heap[w.heap.size]? = some (.cells #[.map (some mb), .pointer (some ⟨sb, 0, none⟩)] 89 (0, 0)) ∧ W.heap[w.heap.size + 1]? = some (.cells #[.map none, .pointer none] 89 (0, 0)) ∧ Kept (fun _ => False) w W ∧ (∀ t ∈ S, isProper t.1 t.2 = true) ∧ (len + 1) * 16 ≤ 211106232532992) := by
    refine ⟨h.k0 KZ, ?_, ?_, KZ, hp, hl⟩
    · rw [hW]; exact two0 _ _ _
    · rw [hW]; exact two1 _ _ _
  have EW : Hid (W = (w.alloc (.cells #[.map (some mb), .pointer (some ⟨sb, 0, none⟩)] 89)).alloc (.cells #[.map none, .pointer none] 89)) := hW
  clear h hp hl KZ hW
  dsimp only
  go_enter Tryz.func34, Tryz.ntmps34
  go_upto_region 1 with fail
  rw [← EW.out]
  have c1 := cell_blk H.out.2.1 1 (v := .pointer (some ⟨sb, 0, none⟩)) rfl
  go_wp2_with fail
  have SF : Hid (Calls Tryz.prog 59 #[.pointer (some ⟨sb, 0, none⟩), .agg #[.int .i64 0, .int .i64 0]] W fun o w' => ∃ p c, o = .returned (.slice p len c) ∧ Row w' p len c S ∧ From W.heap.size p ∧ Below W.heap.size W w') := by
    have := sFrom sb q len cap S 0 0 W H.out.1.st H.out.1.up (by have := H.out.2.2.2.2.2; omega)
    rw [ahead_zero H.out.2.2.2.2.1] at this
    exact this
  refine SF.out.mono ?_
  rintro o w2 ⟨p2, c2, rfl, R2, F2, B2⟩
  have H2 : Hid (Row w2 p2 len c2 S ∧ Kept (fun _ => False) W w2) := ⟨R2, k0_of B2⟩
  clear R2 F2 B2 SF c1
  go_wp2_with fail
  refine (sNewSet p2 len c2 S w2 H2.out.1.reads H2.out.1.tight H.out.2.2.2.2.2).mono ?_
  rintro o w3 (⟨_, B, q', m', c', S', rfl, hs, up, hS, hB, hq, B3⟩ | ⟨⟨t, ht, hz⟩, _⟩)
  · have H3 : Hid (IsRow w3 n ⟨mb, sb, q, len, cap, S, M⟩ ∧ w3.heap[w.heap.size]? = some (.cells #[.map (some mb), .pointer (some ⟨sb, 0, none⟩)] 89 (0, 0)) ∧ w3.heap[w.heap.size + 1]? = some (.cells #[.map none, .pointer none] 89 (0, 0)) ∧ Kept (fun _ => False) w w3 ∧ IsSet 142 w3 B q' len c' S ∧ w.heap.size + 2 ≤ B ∧ From (w.heap.size + 2) q') := by
      have K3 : Kept (fun _ => False) W w3 := H2.out.2.and0 (k0_of B3)
      have e : S' = S := rising_one _ _ up H.out.1.up hS
      subst e
      have em : m' = len := hs.row.length.symm.trans H.out.1.st.row.length
      subst em
      have sz : W.heap.size = w.heap.size + 2 := by rw [EW.out]; simp
      have s2 := H2.out.2.size
      exact ⟨H.out.1.k0 K3, K3.get H.out.2.1 (fun z => z), K3.get H.out.2.2.1 (fun z => z), H.out.2.2.2.1.and0 K3, hs, by omega, fun k hk => by have := hq k hk; omega⟩
    clear hs up hS hB hq B3
    have c0 := cell_blk H3.out.2.1 0 (v := .map (some mb)) rfl
    go_wp2_with fail
    refine (cloneM H3.out.1.tm).mono ?_
    rintro o w4 ⟨nb, rfl, tm4, hn4, K4⟩
    have H4 : Hid (TM 37 tl TFit Hd.val RH w4 nb n M ∧ w4.heap[w.heap.size + 1]? = some (.cells #[.map none, .pointer none] 89 (0, 0)) ∧ Kept (fun _ => False) w w4 ∧ IsSet 142 w4 B q' len c' S ∧ w.heap.size + 2 ≤ nb) := by
      have := block_lt H3.out.2.2.1
      exact ⟨tm4, K4.get H3.out.2.2.1 (fun z => z), H3.out.2.2.2.1.and0 K4, H3.out.2.2.2.2.1.off K4 (fun z => z) (fun _ _ z => z), by omega⟩
    clear tm4 hn4 K4 c0
    have r0 := cell_blk H4.out.2.1 0 (v := .map none) rfl
    have r1 := cell_blk H4.out.2.1 1 (v := .pointer none) rfl
    have s0 := soft_blk H4.out.2.1 0
    have s1 := soft_blk H4.out.2.1 1
    go_wp2_with fail
    have K5 : Kept (fun k => k = w.heap.size + 1) w4 ((w4.setCell ⟨w.heap.size + 1, 0, none⟩ (.map (some nb))).setCell ⟨w.heap.size + 1, 1, none⟩ (.pointer (some ⟨B, 0, none⟩))) := ((Kept.refl (fun k => k = w.heap.size + 1) w4).setCell (p := ⟨w.heap.size + 1, 0, none⟩) (fun _ => rfl) _).setCell (p := ⟨w.heap.size + 1, 1, none⟩) (fun _ => rfl) _
    refine bodyPost_ret (results_row rfl _ _ _ (.map (some nb)) (.pointer (some ⟨B, 0, none⟩)) rfl (heap_set (heap_set H4.out.2.1 0 _) 1 _)) rfl ?_
    obtain ⟨k1, k2, k3, k4, k5⟩ := H4.out
    obtain ⟨_, _, _, _, _, j6, j7⟩ := H3.out
    refine ⟨nb, B, rfl, ⟨nb, B, q', len, c', S, M⟩, rfl, rfl, ⟨k1.kept K5 (fun z => by have z : nb = w.heap.size + 1 := z; omega), k4.off K5 (fun z => by have z : B = w.heap.size + 1 := z; omega) (fun k hk z => by have z : k = w.heap.size + 1 := z; have := j7 k hk; omega), H.out.1.up⟩, rfl, rfl, rfl, fun k hk => ?_, k3.trans K5 (fun j hj z => by have z : j = w.heap.size + 1 := z; omega)⟩
    rcases hk with z | z | z
    · have z : k = nb := z
      omega
    · have z : k = B := z
      omega
    · have := j7 k z
      omega
  · rw [H.out.2.2.2.2.1 t ht] at hz
    cases hz
end Go.Proofs.YtojepeefphbekaaGreat

namespace Go.Proofs.YtojepeefphbekaaGreat
open Go.RowKit 

theorem hF_iff (l : List Mv) (k : ByteArray) (t : Int × Int) : hF l k t = true ↔ ∃ m ∈ l, key3 m.key = k ∧ t = m.tag ∧ m.fin = true := by
  induction l with
  | nil => simp [hF]
  | cons a l ih =>
    show ((decide (key3 a.key = k) && decide (t = a.tag) && a.fin) || hF l k t) = true ↔ _
    rw [Bool.or_eq_true, ih]
    simp [and_assoc]
theorem hH_iff (l : List Mv) (k : ByteArray) (t : Int × Int) : hH l k t = true ↔ ∃ m ∈ l, key3 m.key = k ∧ t = m.tag ∧ m.brings = true := by
  induction l with
  | nil => simp [hH]
  | cons a l ih =>
    show ((decide (key3 a.key = k) && decide (t = a.tag) && a.brings) || hH l k t) = true ↔ _
    rw [Bool.or_eq_true, ih]
    simp [and_assoc]
theorem h_cong {l l' : List Mv} (e : ∀ m, m ∈ l ↔ m ∈ l') (k : ByteArray) : hF l k = hF l' k ∧ hH l k = hH l' k := by
  constructor
  · funext t
    rw [Bool.eq_iff_iff, hF_iff, hF_iff]
    simp only [e]
  · funext t
    rw [Bool.eq_iff_iff, hH_iff, hH_iff]
    simp only [e]
theorem desc_cong {l l' : List Mv} {key : ByteArray} (h1 : hF l key = hF l' key) (h2 : hH l key = hH l' key) (k : Nat) : desc l key k = desc l' key k ∧ fins l key k = fins l' key k := by
  induction k with
  | zero => exact ⟨rfl, rfl⟩
  | succ k ih =>
    constructor
    · show desc l key k ++ _ = desc l' key k ++ _
      rw [ih.1]
      unfold evN
      rw [h1, h2]
    · show fins l key k + _ = fins l' key k + _
      rw [ih.2, h1]
theorem stop_cong {l l' : List Mv} {key : ByteArray} (h1 : hF l key = hF l' key) (h2 : hH l key = hH l' key) {d : Int} {k : Nat} (s : Stop l key d k) : Stop l' key d k := by
  rcases s with ⟨rfl, h⟩ | ⟨j, rfl, hj, hf, h⟩
  · exact .inl ⟨rfl, by rw [← (desc_cong h1 h2 60).2]; exact h⟩
  · exact .inr ⟨j, rfl, hj, by rw [← h1]; exact hf, by rw [← (desc_cong h1 h2 (j + 1)).2]; exact h⟩
theorem stop_some (l : List Mv) (key : ByteArray) (d : Int) (h0 : 0 ≤ d) : ∃ k, Stop l key d k := by
  have H : ∀ k, k ≤ 60 → ((fins l key k : Int) ≤ d ∨ ∃ k', Stop l key d k') := by
    intro k
    induction k with
    | zero => intro _; exact .inl h0
    | succ k ih =>
      intro hk
      rcases ih (by omega) with z | z
      · by_cases hf : hF l key (tagN (59 - k)) = true
        · have e : fins l key (k + 1) = fins l key k + 1 := by
            show fins l key k + _ = _
            rw [if_pos hf]
          by_cases hd : (fins l key k : Int) + 1 ≤ d
          · left; rw [e]; omega
          · exact .inr ⟨k + 1, .inr ⟨k, rfl, by omega, hf, by rw [e]; omega⟩⟩
        · have e : fins l key (k + 1) = fins l key k := by
            show fins l key k + _ = _
            rw [if_neg hf]
            rfl
          left
          rw [e]
          exact z
      · exact .inr z
  rcases H 60 (Nat.le_refl _) with z | z
  · exact ⟨60, .inl ⟨rfl, z⟩⟩
  · exact z
/-- Moves that are the same make tables that tell the same. -/
theorem same_hist {w wr w' wr' : World} {d : Int} {t t' : TK} {l l' : List Mv} (h : Dst w wr d t l) (h' : Dst w' wr' d t' l') (h0 : 0 ≤ d) (e : ∀ m, m ∈ l ↔ m ∈ l') : (∀ k, t.R k = none ↔ t'.R k = none) ∧ ∀ k g, Ab t (datOf t) k g = Ab t' (datOf t') k g := by
  constructor
  · intro k
    have h1 := h.keys k
    have h2 := h'.keys k
    simp only [e] at h1
    rw [← h2] at h1
    exact ⟨fun z => Classical.byContradiction fun q => h1.2 q z, fun z => Classical.byContradiction fun q => h1.1 q z⟩
  · intro k g
    obtain ⟨e1, e2⟩ := h_cong e k
    obtain ⟨n, st⟩ := stop_some l k d h0
    have q1 := expected_ents h h0 k st
    have q2 := expected_ents h' h0 k (stop_cong e1 e2 st)
    rw [← (desc_cong e1 e2 n).1] at q2
    refine Option.ext (fun x => ?_)
    obtain ⟨f, b, y⟩ := x
    exact (ents_ab q1 g f b y).symm.trans (ents_ab q2 g f b y)
/-- Two places change theirs. -/
theorem swap_mem {α : Type} (L : List α) (j k : Nat) (hj : j < L.length) (hk : k < L.length) (m : α) : m ∈ (L.set j L[k]).set k L[j] ↔ m ∈ L := by
  constructor
  · intro h
    rcases List.mem_or_eq_of_mem_set h with z | z
    · rcases List.mem_or_eq_of_mem_set z with y | y
      · exact y
      · rw [y]; exact List.getElem_mem _
    · rw [z]; exact List.getElem_mem _
  · intro h
    obtain ⟨i, hi, rfl⟩ := List.getElem_of_mem h
    rw [List.mem_iff_getElem]
    by_cases e1 : i = j
    · subst e1
      exact ⟨k, by simpa using hk, by simp⟩
    · by_cases e2 : i = k
      · subst e2
        refine ⟨j, by simpa using hj, ?_⟩
        rw [List.getElem_set_ne (by omega), List.getElem_set_self]
      · refine ⟨i, by simpa using hi, ?_⟩
        rw [List.getElem_set_ne (by omega), List.getElem_set_ne (by omega)]
end Go.Proofs.YtojepeefphbekaaGreat

namespace Go.Proofs.YtojepeefphbekaaGreat
open Go.RowKit 

/-- The round's state of Copy. -/
structure CI (w wr : World) (rb nb rr n cnt0 : Nat) (t : TK) (R' : ByteArray → Option RK) (L : ByteArray → Prop) (m cnt : Nat) : Prop where
  rg : RG 9 (fun s : ByteArray => Lit.string s.data.toList) (fun s : ByteArray => s.size ≤ maxLen) RV.val RR wr rb rr n t.rv L cnt
  tm : TM 9 (fun s : ByteArray => Lit.string s.data.toList) (fun s : ByteArray => s.size ≤ maxLen) RV.val RR wr nb m (fun k => (R' k).map fun r => (⟨some r.mb, some r.sb⟩ : RV))
  row : ∀ k r', R' k = some r' → IsRow wr n r' ∧ ∃ r, t.R k = some r ∧ r'.S = r.S ∧ r'.M = r.M ∧ r'.len = r.len
  all : ∀ k r, t.R k = some r → L k ∨ R' k ≠ none
  fst : ∀ k, L k → R' k = Option.none
  fresh : ∀ k r', R' k = some r' → ∀ b, r'.Uses b → w.heap.size ≤ b ∧ b ≠ nb ∧ b ≠ rr
  apart : ∀ k k' r r', R' k = some r → R' k' = some r' → k ≠ k' → ∀ b, r.Uses b → ¬ r'.Uses b
  kept : Kept (fun _ => False) w wr
  few : m + cnt ≤ cnt0
theorem upd_at {κ ε : Type} [DecidableEq κ] (M : κ → Option ε) (k : κ) (e : ε) : upd M k e k = some e := if_pos rfl
theorem upd_ne {κ ε : Type} [DecidableEq κ] (M : κ → Option ε) {k j : κ} (e : ε) (h : j ≠ k) : upd M k e j = M j := if_neg h
theorem CI.step {w wr w2 w3 w4 : World} {rb nb rr n cnt0 : Nat} {t : TK} {R' : ByteArray → Option RK} {L : ByteArray → Prop} {m cnt cnt2 : Nat} {k : ByteArray} {r r' : RK} (h : CI w wr rb nb rr n cnt0 t R' L m cnt)
    (hk : L k ∧ t.R k = some r) (rg2 : RG 9 (fun s : ByteArray => Lit.string s.data.toList) (fun s : ByteArray => s.size ≤ maxLen) RV.val RR w2 rb rr n t.rv (fun j => L j ∧ j ≠ k) cnt2) (hc : cnt2 < cnt) (K2 : Kept (fun j => j = rr) wr w2) (hw : w.heap.size ≤ nb ∧ w.heap.size ≤ rr ∧ nb ≠ rr ∧ rb < w.heap.size ∧ nb < wr.heap.size ∧ rr < wr.heap.size)
    (K3 : Kept (fun _ => False) w2 w3) (i3 : IsRow w3 n r') (e1 : r'.S = r.S) (e2 : r'.M = r.M) (e3 : r'.len = r.len) (fr : ∀ b, r'.Uses b → w2.heap.size ≤ b)
    (tm4 : TM 9 (fun s : ByteArray => Lit.string s.data.toList) (fun s : ByteArray => s.size ≤ maxLen) RV.val RR w4 nb (m + 1) (upd (fun k => (R' k).map fun r => (⟨some r.mb, some r.sb⟩ : RV)) k ⟨some r'.mb, some r'.sb⟩)) (K4 : Kept (fun j => j = nb) w3 w4) : CI w w4 rb nb rr n cnt0 t (upd R' k r') (fun j => L j ∧ j ≠ k) (m + 1) cnt2 := by
  obtain ⟨a1, a2, a3, a4, a5, a6⟩ := hw
  have z2 := K2.size
  have old : ∀ j r2, upd R' k r' j = some r2 → (j = k ∧ r2 = r') ∨ (j ≠ k ∧ R' j = some r2) := by
    intro j r2 hj
    by_cases e : j = k
    · rw [e, upd_at] at hj
      exact .inl ⟨e, (Option.some.inj hj).symm⟩
    · rw [upd_ne _ _ e] at hj
      exact .inr ⟨e, hj⟩
  have far : ∀ j r2, R' j = some r2 → ∀ b, r2.Uses b → ¬ r'.Uses b := fun j r2 hj b hb hb' => by
    have := (h.row j r2 hj).1.lt hb
    have := fr b hb'
    omega
  refine ⟨rg2.kept K3 (fun z => z) (fun z => z) |>.kept K4 (fun z => by have z : rb = nb := z; omega) (fun z => a3 z.symm), ?_, fun j r2 hj => ?_, fun j r2 hj => ?_, fun j hj => ?_, fun j r2 hj b hb => ?_, fun j j' r2 r2' hj hj' hn b hb hb' => ?_, ?_, by have := h.few; omega⟩
  · have e : (fun j => (upd R' k r' j).map fun r => (⟨some r.mb, some r.sb⟩ : RV)) = upd (fun k => (R' k).map fun r => (⟨some r.mb, some r.sb⟩ : RV)) k ⟨some r'.mb, some r'.sb⟩ := by
      funext j
      by_cases e : j = k
      · rw [e, upd_at, upd_at]; rfl
      · rw [upd_ne _ _ e, upd_ne _ _ e]
    rw [e]
    exact tm4
  · rcases old j r2 hj with ⟨rfl, rfl⟩ | ⟨e, q⟩
    · refine ⟨i3.off K4 (fun b hb z => ?_), r, hk.2, e1, e2, e3⟩
      have z : b = nb := z
      have := fr b hb
      omega
    · obtain ⟨i, q2⟩ := h.row j r2 q
      refine ⟨((i.off K2 (fun b hb z => (h.fresh j r2 q b hb).2.2 z)).k0 K3).off K4 (fun b hb z => (h.fresh j r2 q b hb).2.1 z), q2⟩
  · by_cases e : j = k
    · rw [e, upd_at]
      exact .inr (by simp)
    · rw [upd_ne _ _ e]
      rcases h.all j r2 hj with z | z
      · exact .inl ⟨z, e⟩
      · exact .inr z
  · rw [upd_ne _ _ hj.2]
    exact h.fst j hj.1
  · rcases old j r2 hj with ⟨rfl, rfl⟩ | ⟨e, q⟩
    · have := fr b hb
      have := h.kept.size
      exact ⟨by omega, by omega, by omega⟩
    · exact h.fresh j r2 q b hb
  · rcases old j r2 hj with ⟨rfl, rfl⟩ | ⟨e, q⟩
    · rcases old j' r2' hj' with ⟨rfl, rfl⟩ | ⟨e', q'⟩
      · exact hn rfl
      · exact far j' r2' q' b hb' hb
    · rcases old j' r2' hj' with ⟨rfl, rfl⟩ | ⟨e', q'⟩
      · exact far j r2 q b hb hb'
      · exact h.apart j j' r2 r2' q q' hn b hb hb'
  · exact ((h.kept.trans K2 (fun j hj z => by have z : j = rr := z; omega)).and0 K3).trans K4 (fun j hj z => by have z : j = nb := z; omega)
theorem run_makeMap_hint (t k e : TypeId) (h : Tryz.prog.underlying t = some (.map k e)) (n : Int) (w : World) : (Instr.makeMap t (some (.int .i64 n))).run Tryz.prog w = .ok (.map (some w.heap.size)) (w.alloc (.map #[] 0)) := by
  simp [Instr.makeMap, run_underlying h, asInt, go_sem, Result.andThen]
theorem rv_some {t : TK} {k : ByteArray} {v : RV} (h : t.rv k = some v) : ∃ r, t.R k = some r ∧ v = ⟨some r.mb, some r.sb⟩ := by
  unfold TK.rv at h
  cases hr : t.R k with
  | none => rw [hr] at h; cases h
  | some r => rw [hr] at h; exact ⟨r, rfl, (Option.some.inj h).symm⟩
theorem rv_none {t : TK} {k : ByteArray} : t.rv k = none ↔ t.R k = none := by
  unfold TK.rv
  cases t.R k <;> simp
/-- Behind the loop. -/
theorem CI.done {w0 w wr w' : World} {rb nb rr n cnt0 : Nat} {d : Int} {t : TK} {ms : List Mv} {R' : ByteArray → Option RK} {L : ByteArray → Prop} {m cnt tb : Nat} (h : CI w wr rb nb rr n cnt0 t R' L m cnt) (ht : Dst w0 w d t ms) (hn : n = ms.length) (hc : cnt0 ≤ n) (no : ∀ k r, t.R k = some r → ¬ L k) (h1 : w.heap.size ≤ nb)
    (K : Kept (fun _ => False) wr w') (hb : w'.heap[tb]? = some (.cells #[.int .i64 d, .map (some nb)] 85 (0, 0))) (h2 : wr.heap.size ≤ tb) : Dst w w' d ⟨tb, nb, d, R'⟩ ms := by
  have rn : ∀ k, R' k = none ↔ t.R k = none := by
    intro k
    constructor
    · intro z
      cases hr : t.R k with
      | none => rfl
      | some r =>
        rcases h.all k r hr with q | q
        · exact absurd q (no k r hr)
        · exact absurd z q
    · intro z
      cases hr : R' k with
      | none => rfl
      | some r' =>
        obtain ⟨_, r, hr2, _⟩ := h.row k r' hr
        rw [z] at hr2
        cases hr2
  have eS : ∀ k, TS ⟨tb, nb, d, R'⟩ k = TS t k := by
    intro k
    cases hr : R' k with
    | none => rw [TS_no (t := ⟨tb, nb, d, R'⟩) hr, TS_no ((rn k).1 hr)]
    | some r' =>
      obtain ⟨_, r, hr2, q, _⟩ := h.row k r' hr
      rw [TS_at (t := ⟨tb, nb, d, R'⟩) hr, TS_at hr2, q]
  have eM : ∀ k, TMp ⟨tb, nb, d, R'⟩ k = TMp t k := by
    intro k
    cases hr : R' k with
    | none => rw [TMp_no (t := ⟨tb, nb, d, R'⟩) hr, TMp_no ((rn k).1 hr)]
    | some r' =>
      obtain ⟨_, r, hr2, _, q, _⟩ := h.row k r' hr
      rw [TMp_at (t := ⟨tb, nb, d, R'⟩) hr, TMp_at hr2, q]
  have few := h.few
  have K0 := h.kept.and0 K
  refine ⟨⟨hb, (h.tm.kept K (fun z => z)).mono (by omega), fun k r' hr => by rw [← hn]; exact (h.row k r' hr).1.k0 K, fun k r' hr => ?_, h.apart, fun k r' hr => ⟨fun z => (h.fresh k r' hr _ z).2.1 rfl, fun z => ?_⟩⟩, fun k r' hr => ?_, fun k r' hr => ?_, fun k r' hr => ?_, rfl, fun k => by rw [eS, eM]; exact ht.inv k, fun k => by rw [eS, eM]; exact ht.hist k, fun k => ?_, K0, fun b hbb => ?_, ?_⟩
  · obtain ⟨_, r, hr2, _, _, q⟩ := h.row k r' hr
    rw [q]
    exact ht.tab.len k r hr2
  · have := (h.row k r' hr).1.lt z
    have h2 : wr.heap.size ≤ tb := h2
    have this : tb < wr.heap.size := this
    omega
  · obtain ⟨_, r, hr2, _, q, _⟩ := h.row k r' hr
    rw [q]
    exact (ht.dat k r hr2).off K0 (fun _ _ _ z => z)
  · obtain ⟨_, r, hr2, _, q, _⟩ := h.row k r' hr
    rw [q]
    exact (ht.dd k r hr2).off (ht.dat k r hr2) K0 (fun _ _ _ z => z)
  · obtain ⟨_, r, hr2, _, _, q⟩ := h.row k r' hr
    rw [q]
    exact ht.len k r hr2
  · rw [← ht.keys k]
    exact not_congr (rn k)
  · rcases hbb with z | ⟨k, r', hr, z⟩
    · have z : b = nb := z
      omega
    · exact (h.fresh k r' hr b z).1
  · have := h.kept.size
    show w.heap.size ≤ tb
    omega
theorem Dst.properS {w wr : World} {d : Int} {t : TK} {ms : List Mv} (h : Dst w wr d t ms) {k : ByteArray} {r : RK} (hr : t.R k = some r) : ∀ g ∈ r.S, isProper g.1 g.2 = true := by
  intro g hg
  obtain ⟨hd, hm, _⟩ := ((h.inv k).fin g).1 (by rw [TS_at hr]; exact hg)
  have lo := (h.inv k).low _ hd hm
  have q := (h.hist k).inn _ lo
  rw [hm] at q
  have hs : (hF ms k g || hH ms k g) = true := by
    split at q
    · assumption
    · cases q
  rw [Bool.or_eq_true, hF_iff, hH_iff] at hs
  rcases hs with ⟨m, _, _, h3, _⟩ | ⟨m, _, _, h3, _⟩
  · rw [h3]; exact (tag60_proper m.c m.k).1
  · rw [h3]; exact (tag60_proper m.c m.k).1
set_option maxRecDepth 100000 in
set_option maxHeartbeats 4000000 in
/-- Copy. -/
theorem dCopy {w wr0 : World} {d : Int} {t : TK} {ms : List Mv} {tb : Nat} (h : Dst w wr0 d t ms) (et : t.tb = tb) (hl : ms.length ≤ 4398046511104) : Calls Tryz.prog 10 #[.pointer (some ⟨tb, 0, none⟩)] wr0 fun o w' => ∃ nb, o = .returned (.pointer (some ⟨nb, 0, none⟩)) ∧ Hid (∃ c, Dst wr0 w' d c ms ∧ c.tb = nb) := by
  obtain ⟨n, hnn⟩ : ∃ n, n = ms.length := ⟨_, rfl⟩
  obtain ⟨rb, hrb⟩ : ∃ rb, rb = t.rb := ⟨_, rfl⟩
  have rows : TM 9 (fun s : ByteArray => Lit.string s.data.toList) (fun s : ByteArray => s.size ≤ maxLen) RV.val RR wr0 rb n t.rv := by rw [hrb, hnn]; exact h.tab.rows
  have rows0 := rows
  obtain ⟨D, hM, sM⟩ := rows0
  have ln : ∀ ty, (Builtin.len_ #[83] ty #[.map (some rb)]).run Tryz.prog wr0 = .ok (.int .i64 (Maps.size D : Int)) wr0 := fun ty => hM.len Tryz.underlying83 ty
  obtain ⟨cp, hcp⟩ : ∃ cp : Int, cp = (Maps.size D : Int) := ⟨_, rfl⟩
  rw [← hcp] at ln
  have blk : wr0.heap[tb]? = some (.cells #[.int .i64 d, .map (some rb)] 85 (0, 0)) := by
    have := h.tab.blk
    rw [et, h.delta, ← hrb] at this
    exact this
  have mk := run_makeMap_hint 83 9 89 Tryz.underlying83 cp wr0
  obtain ⟨W, hW⟩ : ∃ W, W = wr0.alloc (.map #[] 0) := ⟨_, rfl⟩
  obtain ⟨nb, hnb⟩ : ∃ nb, nb = wr0.heap.size := ⟨_, rfl⟩
  rw [← hW, ← hnb] at mk
  have KW : Kept (fun _ => False) wr0 W := by rw [hW]; exact k0_alloc _ _
  have H : Hid (Dst w wr0 d t ms ∧ t.tb = tb ∧ n ≤ 4398046511104 ∧ n = ms.length ∧ rb = t.rb ∧ rb < wr0.heap.size) := ⟨h, et, by omega, hnn, hrb, rows.lt⟩
  have HW : Hid (W.heap[tb]? = some (.cells #[.int .i64 d, .map (some rb)] 85 (0, 0)) ∧ TM 9 (fun s : ByteArray => Lit.string s.data.toList) (fun s : ByteArray => s.size ≤ maxLen) RV.val RR W rb n t.rv ∧ TM 9 (fun s : ByteArray => Lit.string s.data.toList) (fun s : ByteArray => s.size ≤ maxLen) RV.val RR W nb 0 (fun _ => (none : Option RV)) ∧ Kept (fun _ => False) wr0 W ∧ W.heap.size = nb + 1 ∧ nb = wr0.heap.size) := ⟨KW.get blk (fun z => z), rows.kept KW (fun z => z), by rw [hW, hnb]; exact TM.made wr0, KW, by rw [hW, hnb]; simp, hnb⟩
  have c1 := cell_blk blk 1 (v := .map (some rb)) rfl
  have d1 := cell_blk HW.out.1 1 (v := .map (some rb)) rfl
  clear h et hl hnn hrb rows hM sM blk hcp KW hW hnb
  go_enter Tryz.func10, Tryz.ntmps10
  go_wp2_with
    (first
      | (at_range; refine wpList_rng rowsK _ rfl _ rfl rb n t.rv rfl HW.out.2.1 ?_; intro w4 hrg0 hk0 hs0)
      | fail)
  obtain ⟨rr, hrr⟩ : ∃ rr, rr = W.heap.size := ⟨_, rfl⟩
  rw [← hrr]
  have I0 : Hid (∃ cnt0, cnt0 ≤ n ∧ CI wr0 w4 rb nb rr n cnt0 t (fun _ => none) (fun k => t.rv k ≠ none) 0 cnt0) := by
    obtain ⟨cnt, g⟩ := hrg0.out
    rw [← hrr] at g
    refine ⟨cnt, g.cnt_le, g, ?_, fun k r' hr => (by cases hr), fun k r hr => .inl (fun z => ?_), fun _ _ => rfl, fun k r' hr => (by cases hr), fun k k' r r' hr => (by cases hr), HW.out.2.2.2.1.and0 hk0.out, by omega⟩
    · exact HW.out.2.2.1.kept hk0.out (fun z => z)
    · rw [rv_none, hr] at z
      cases z
  obtain ⟨cnt0, hc0, hI0⟩ := I0.out
  have C0 : Hid (cnt0 ≤ n ∧ CI wr0 w4 rb nb rr n cnt0 t (fun _ => none) (fun k => t.rv k ≠ none) 0 cnt0 ∧ nb + 1 = rr ∧ nb = wr0.heap.size ∧ rb < wr0.heap.size ∧ rr < w4.heap.size) := ⟨hc0, hI0, by rw [hrr]; exact HW.out.2.2.2.2.1.symm, HW.out.2.2.2.2.2, H.out.2.2.2.2.2, hI0.rg.lt.1⟩
  clear hrg0 hk0 hs0 hrr I0 hc0 hI0 c1 d1 mk ln
  (try go_frame)
  go_loopw [4, 5] (fun _ _ wr => ∃ cnt R' L m, Hid (CI wr0 wr rb nb rr n cnt0 t R' L m cnt ∧ w4.heap.size ≤ wr.heap.size)) (fun _ _ wr => wr.rangeLeft rb rr)
  case atStart => exact ⟨cnt0, _, _, _, C0.out.2.1, Nat.le_refl _⟩
  case round =>
    obtain ⟨cnt, R', L, m, I⟩ := hrel
    obtain ⟨wq, rfl⟩ : ∃ wq : World, wq = wr := ⟨_, rfl⟩
    go_wp2_with
      (first
        | (at_next; refine wpList_nxt rowsK _ rfl _ rfl rb rr n t.rv L cnt rfl I.out.1.rg ?_ ?_)
        | fail)
    · intro hdn
      have BQ : Hid (wq.heap[tb]? = some (.cells #[.int .i64 d, .map (some rb)] 85 (0, 0))) := by
        have := H.out.1.tab.blk
        rw [H.out.2.1, H.out.1.delta, ← H.out.2.2.2.2.1] at this
        exact I.out.1.kept.get this (fun z => z)
      have e0 := cell_blk BQ.out 0 (v := .int .i64 d) rfl
      go_wp2_with fail
      go_ret
      refine ⟨wq.heap.size, rfl, ⟨wq.heap.size, nb, d, R'⟩, ?_, rfl⟩
      refine I.out.1.done H.out.1 H.out.2.2.2.1 C0.out.1 (fun k r hr hL => ?_) (by have := C0.out.2.2.2.1; omega) (k0_alloc _ _) (heap_alloc_new _ _) (Nat.le_refl _)
      have hf : k.size ≤ maxLen := by
        obtain ⟨D', _, sD⟩ := I.out.1.rg.tm
        exact sD.2 k _ (by unfold TK.rv; rw [hr]; rfl)
      exact hdn.out k hf hL
    · intro key rv w5 cnt5 hk hrg hlt hK hen
      obtain ⟨r, hr, rfl⟩ := rv_some hk.out.2.2
      obtain ⟨mb, hmb⟩ : ∃ mb, mb = r.mb := ⟨_, rfl⟩
      obtain ⟨sb, hsb⟩ : ∃ sb, sb = r.sb := ⟨_, rfl⟩
      replace hen : (Instr.entry (.pointer (some ⟨rr, 0, none⟩))).run Tryz.prog w5 = .ok (.tuple #[.string key, .agg #[.map (some mb), .pointer (some ⟨sb, 0, none⟩)]]) w5 := by rw [hmb, hsb]; exact hen
      have ev : RV.val ⟨some r.mb, some r.sb⟩ = .agg #[.map (some mb), .pointer (some ⟨sb, 0, none⟩)] := by rw [hmb, hsb]; rfl
      rw [ev]
      obtain ⟨W6, hW6⟩ : ∃ W6, W6 = w5.alloc (.cells #[.map (some mb), .pointer (some ⟨sb, 0, none⟩)] 89) := ⟨_, rfl⟩
      obtain ⟨b6, hb6⟩ : ∃ b6, b6 = w5.heap.size := ⟨_, rfl⟩
      have J6 : Hid (W6.heap[b6]? = some (.cells #[.map (some mb), .pointer (some ⟨sb, 0, none⟩)] 89 (0, 0)) ∧ Kept (fun _ => False) w5 W6 ∧ IsRow W6 n r ∧ (∀ g ∈ r.S, isProper g.1 g.2 = true) ∧ (r.len + 1) * 16 ≤ 211106232532992 ∧ t.R key = some r ∧ mb = r.mb ∧ sb = r.sb ∧ key.size ≤ maxLen ∧ m < maxLen) := by
        have K56 : Kept (fun _ => False) w5 W6 := by rw [hW6]; exact k0_alloc _ _
        have Kw5 : Kept (fun _ => False) wr0 w5 := I.out.1.kept.trans hK.out (fun j hj z => by have z : j = rr := z; have := C0.out.2.2.1; have := C0.out.2.2.2.1; omega)
        refine ⟨by rw [hW6, hb6]; exact heap_alloc_new _ _, K56, ?_, H.out.1.properS hr, H.out.1.tab.len key r hr, hr, hmb, hsb, hk.out.1, ?_⟩
        · have := (H.out.1.tab.row key r hr).k0 (Kw5.and0 K56)
          rw [← H.out.2.2.2.1] at this
          exact this
        · have := I.out.1.few
          have := C0.out.1
          have := H.out.2.2.1
          unfold maxLen
          omega
      have EW6 : Hid (W6 = w5.alloc (.cells #[.map (some mb), .pointer (some ⟨sb, 0, none⟩)] 89) ∧ b6 = w5.heap.size) := ⟨hW6, hb6⟩
      clear hW6 hb6 hr hmb hsb ev
      go_upto_region 7 with fail
      rw [← EW6.out.1, ← EW6.out.2]
      have u0 := cell_blk J6.out.1 0 (v := .map (some mb)) rfl
      have u1 := cell_blk J6.out.1 1 (v := .pointer (some ⟨sb, 0, none⟩)) rfl
      have RC : Hid (Calls Tryz.prog 34 #[.agg #[.map (some mb), .pointer (some ⟨sb, 0, none⟩)]] W6 fun o w' => ∃ mb sb, o = .returned (.agg #[.map (some mb), .pointer (some ⟨sb, 0, none⟩)]) ∧ Hid (∃ r' : RK, r'.mb = mb ∧ r'.sb = sb ∧ IsRow w' n r' ∧ r'.S = r.S ∧ r'.M = r.M ∧ r'.len = r.len ∧ (∀ k, r'.Uses k → W6.heap.size ≤ k) ∧ Kept (fun _ => False) W6 w')) := by
        rw [J6.out.2.2.2.2.2.2.1, J6.out.2.2.2.2.2.2.2.1]
        exact rowCopy n r W6 J6.out.2.2.1 J6.out.2.2.2.1 J6.out.2.2.2.2.1
      clear hen
      go_wp2_with fail
      refine RC.out.mono ?_
      rintro o w7 ⟨mb', sb', rfl, Q7⟩
      obtain ⟨r', hm', hs', i7, q1, q2, q3, q4, K7⟩ := Q7.out
      have J7 : Hid (r'.mb = mb' ∧ r'.sb = sb' ∧ IsRow w7 n r' ∧ r'.S = r.S ∧ r'.M = r.M ∧ r'.len = r.len ∧ (∀ k, r'.Uses k → w5.heap.size ≤ k) ∧ Kept (fun _ => False) w5 w7) := ⟨hm', hs', i7, q1, q2, q3, fun k hk => Nat.le_trans J6.out.2.1.size (q4 k hk), J6.out.2.1.and0 K7⟩
      have T7 : Hid (TM 9 (fun s : ByteArray => Lit.string s.data.toList) (fun s : ByteArray => s.size ≤ maxLen) RV.val RR w7 nb m (fun k => (R' k).map fun r => (⟨some r.mb, some r.sb⟩ : RV))) := (I.out.1.tm.kept hK.out (fun z => by have z : nb = rr := z; have := C0.out.2.2.1; omega)).kept J7.out.2.2.2.2.2.2.2 (fun z => z)
      clear hm' hs' i7 q1 q2 q3 q4 K7 Q7 RC u0 u1
      go_wp2_with
        (first
          | (at_mapUpdate; refine wpList_put rowsK _ rfl _ _ _ rfl nb m _ rfl T7.out J6.out.2.2.2.2.2.2.2.2.2 key J6.out.2.2.2.2.2.2.2.2.1 ⟨some mb', some sb'⟩ rfl rfl ?_; intro w8 tm8 k8; go_frame)
          | fail)
      go_roundw
      case rel =>
        refine ⟨cnt5, upd R' key r', _, m + 1, I.out.1.step ⟨hk.out.2.1, J6.out.2.2.2.2.2.1⟩ hrg.out hlt.out hK.out ?_ J7.out.2.2.2.2.2.2.2 J7.out.2.2.1 J7.out.2.2.2.1 J7.out.2.2.2.2.1 J7.out.2.2.2.2.2.1 J7.out.2.2.2.2.2.2.1 ?_ k8.out, ?_⟩
        · have a1 := C0.out.2.2.1
          have a2 := C0.out.2.2.2.1
          have a3 := C0.out.2.2.2.2.1
          have a4 := C0.out.2.2.2.2.2
          have a5 := I.out.2
          exact ⟨by omega, by omega, by omega, by omega, by omega, by omega⟩
        · have := tm8.out
          rw [← J7.out.1, ← J7.out.2.1] at this
          exact this
        · have b1 := I.out.2
          have b2 := hK.out.size
          have b3 := J7.out.2.2.2.2.2.2.2.size
          have b4 := k8.out.size
          omega
      case measure =>
        have R9 : RG 9 (fun s : ByteArray => Lit.string s.data.toList) (fun s : ByteArray => s.size ≤ maxLen) RV.val RR w8 rb rr n t.rv (fun j => L j ∧ j ≠ key) cnt5 := (hrg.out.kept J7.out.2.2.2.2.2.2.2 (fun z => z) (fun z => z)).kept k8.out (fun z => by have z : rb = nb := z; have := C0.out.2.2.2.1; have := C0.out.2.2.2.2.1; omega) (fun z => by have z : rr = nb := z; have := C0.out.2.2.1; omega)
        rw [R9.left_eq, I.out.1.rg.left_eq]
        exact hlt.out
end Go.Proofs.YtojepeefphbekaaGreat
