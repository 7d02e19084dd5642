import Derived.Test.YthcnpijgfhinhaaLists
namespace Go.Proofs.Ythcnpijgfhinhaa
open Go.RowKit

/-- A slice reads as this list of numbers. -/
structure IReads (w : World) (a : Option Addr) (len cap : Nat) (l : List Int) : Prop where
  length : l.length = len
  room : len ≤ cap
  small : cap ≤ maxLen
  cells : 0 < len → ∃ b off, a = some ⟨b, off, none⟩ ∧ ∀ i, i < len → w.cell? ⟨b, off + i, none⟩ = some (.int .i64 (l.getD i 0))
theorem IReads.by {w w' : World} {a : Option Addr} {len cap : Nat} {l : List Int} (r : IReads w a len cap l) (B : Below w.heap.size w w') : IReads w' a len cap l := ⟨r.length, r.room, r.small, fun h => by
  obtain ⟨b, off, e, hc⟩ := r.cells h
  refine ⟨b, off, e, fun i hi => ?_⟩
  have lb : b < w.heap.size := World.block_lt_of_cell? w _ (hc i hi)
  exact (B.cell lb).trans (hc i hi)⟩
theorem IReads.kept {S : Nat → Prop} {w w' : World} {a : Option Addr} {len cap : Nat} {l : List Int} (r : IReads w a len cap l) (B : Kept S w w') (hn : ∀ b off, a = some ⟨b, off, none⟩ → ¬ S b) : IReads w' a len cap l := ⟨r.length, r.room, r.small, fun h => by
  obtain ⟨b, off, e, hc⟩ := r.cells h
  refine ⟨b, off, e, fun i hi => ?_⟩
  exact B.cell (hc i hi) (hn _ _ e)⟩
theorem getD_at (l : List Int) (i : Nat) (h : i < l.length) : l.getD i 0 = l[i] := by
  rw [List.getD_eq_getElem?_getD, List.getElem?_eq_getElem h]; rfl
theorem ints_get (l : List Int) (i : Nat) (h : i < l.length) : (ints l)[i]? = some (.int .i64 (l.getD i 0)) := by
  rw [getD_at l i h]; unfold ints; rw [List.getElem?_map, List.getElem?_eq_getElem h]; rfl
theorem owns_ireads {w : World} {base k : Nat} {v : Value} {l : List Int} (h : w.ownsRow base 3 1 v k (ints l)) :
    ∃ a cap, v = .slice a k cap ∧ IReads w a k cap l ∧ ∀ p, a = some p → base ≤ p.block := by
  have hl : l.length = k := by have := h.1; unfold ints at this; rw [List.length_map] at this; omega
  rcases h.2 with ⟨rfl, rfl⟩ | ⟨g, cap, cur, rfl, hb, hg, hk, hm, hs, ht⟩
  · exact ⟨none, 0, rfl, ⟨hl, Nat.le_refl _, by unfold maxLen; omega, fun h0 => absurd h0 (by omega)⟩, fun _ q => by cases q⟩
  · refine ⟨_, cap, rfl, ⟨hl, hk, hm, fun _ => ⟨g, 0, rfl, fun i hi => ?_⟩⟩, fun p q => by cases q; exact hb⟩
    have e0 := ints_get l i (by omega)
    rw [← ht, List.getElem?_take_of_lt (by omega)] at e0
    rw [cell_of_row w g _ cur 3 (0, 0) hg, Nat.zero_add]
    simpa using e0
theorem take_next (l m : List Int) (i : Nat) (h1 : i < l.length) (h2 : i < m.length) (h : l.take i = m.take i) (he : l.getD i 0 = m.getD i 0) : l.take (i + 1) = m.take (i + 1) := by
  rw [List.take_succ_eq_append_getElem h1, List.take_succ_eq_append_getElem h2, h, ← getD_at l i h1, ← getD_at m i h2, he]
theorem bdrewN {n : Nat} {w w' : World} (h : Below n w w') (k : Nat) : Below n w (w'.drewN k) := ⟨h.os, h.tape, h.output, h.size, h.block⟩
theorem below_drewN (w : World) (k : Nat) : Below w.heap.size w (w.drewN k) := ⟨rfl, rfl, rfl, Nat.le_refl _, fun _ _ => rfl⟩
set_option maxRecDepth 100000 in
set_option maxHeartbeats 1000000 in
theorem sameInts (a1 a2 : Option Addr) (len1 cap1 len2 cap2 : Nat) (l m : List Int) (w : World) (r1 : IReads w a1 len1 cap1 l) (r2 : IReads w a2 len2 cap2 m) :
    Calls Try.prog 16 #[.slice a1 len1 cap1, .slice a2 len2 cap2] w fun x w' => x = .returned (.bool (decide (l = m))) ∧ ∃ k, w' = w.drewN k := by
  have l1 := r1.length
  have l2 := r2.length
  have k1 := r1.room
  have k2 := r2.room
  have s1 := r1.small
  have s2 := r2.small
  unfold maxLen at s1 s2
  have R1 : Hid (IReads w a1 len1 cap1 l) := r1
  have R2 : Hid (IReads w a2 len2 cap2 m) := r2
  clear r1 r2
  by_cases hl : len1 = len2
  · subst hl
    go_enter Try.func16, Try.ntmps16
    go_wp2_with fail
    go_loopw [5, 13] (fun _ x wr => ∃ (i k : Nat), x = .int .i64 (i : Int) ∧ i ≤ len1 ∧ wr = w.drewN k ∧ Hid (l.take i = m.take i)) (fun _ x _ => len1 - (intOf x).toNat)
    case atStart => exact ⟨0, 0, rfl, Nat.zero_le _, rfl, rfl⟩
    case round =>
      obtain ⟨i, k, rfl, hi, rfl, hT⟩ := hrel
      by_cases hlt : i < len1
      · obtain ⟨b1, o1, rfl, hc1⟩ := R1.out.cells (by omega)
        obtain ⟨b2, o2, rfl, hc2⟩ := R2.out.cells (by omega)
        have e1 := hc1 i hlt
        have e2 := hc2 i hlt
        have i1 : (i : Int) < (len1 : Int) := by omega
        obtain ⟨x, hx⟩ : ∃ x, l.getD i 0 = x := ⟨_, rfl⟩
        obtain ⟨y, hy⟩ : ∃ x, m.getD i 0 = x := ⟨_, rfl⟩
        have HX : Hid (l.getD i 0 = x) := hx
        have HY : Hid (m.getD i 0 = y) := hy
        rw [hx] at e1
        rw [hy] at e2
        clear hc1 hc2 hx hy
        by_cases hxy : x = y
        · subst hxy
          go_wp2_with fail
          go_quiet (fail)
          go_wp2_with fail
          go_roundw
          case rel => exact ⟨i + 1, k + nq, by go_num, by omega, rfl, take_next l m i (by omega) (by omega) hT.out (HX.out.trans HY.out.symm)⟩
          case measure => simp [intOf]; omega
        · have hd : decide (x = y) = false := by simp [hxy]
          go_wp2_with fail
          go_quiet (fail)
          go_wp2_with fail
          go_ret
          refine ⟨?_, k + nq, by rw [World.drewN_drewN]⟩
          have : ¬ l = m := fun q => hxy (by rw [← HX.out, ← HY.out, q])
          simp [this]
      · have he : len1 = i := by omega
        subst he
        go_wp2_with fail
        go_ret
        refine ⟨?_, k, rfl⟩
        have : l = m := by
          have := hT.out
          rw [List.take_of_length_le (by omega), List.take_of_length_le (by omega)] at this
          exact this
        simp [this]
  · go_enter Try.func16, Try.ntmps16
    have hn : ¬ ((len1 : Int) = (len2 : Int)) := by omega
    go_wp2_with fail
    go_ret
    refine ⟨?_, 0, rfl⟩
    have : ¬ l = m := fun q => hl (by rw [← l1, ← l2, q])
    simp [this]
theorem met_nil (w : World) : Calls Try.prog 17 #[.pointer none] w fun x w' => x = .returned (.bool false) ∧ w' = w := by
  go_enter Try.func17, Try.ntmps17
  go_wp2_with fail
  go_ret
  exact ⟨rfl, rfl⟩
def metB (m : Nat → Bool) (N K : Int) : Bool := decide (quo N K ≤ (sz m N : Int))
theorem met {b : Nat} {N K D : Int} {m : Nat → Bool} (w : World) (h : IsS w b N K D m) : Calls Try.prog 17 #[.pointer (some ⟨b, 0, none⟩)] w fun x w' => x = .returned (.bool (metB m N K)) ∧ Below w.heap.size w w' := by
  obtain ⟨c0, c1, c2, c3, c4, c5, c6⟩ := h.cells
  have HS : Hid (IsS w b N K D m) := h
  clear h c3 c4 c5 c6
  go_enter Try.func17, Try.ntmps17
  go_wp2_with fail
  refine (size_ok N K D w HS.out.ok).mono ?_
  rintro e w1 ⟨rfl, b1⟩
  go_wp2_with fail
  refine (len w1 (HS.out.by b1)).mono ?_
  rintro e w2 ⟨rfl, rfl⟩
  go_wp2_with fail
  go_ret
  exact ⟨rfl, b1⟩
theorem three_reads {w : World} {g : Nat} (x y z : Int) (h : w.heap[g]? = some (.cells #[.int .i64 x, .int .i64 y, .int .i64 z] 3 (0, 0))) : IReads w (some ⟨g, 0, none⟩) 3 3 [x, y, z] := by
  refine ⟨rfl, Nat.le_refl _, by unfold maxLen; omega, fun _ => ⟨g, 0, rfl, fun i hi => ?_⟩⟩
  rw [Nat.zero_add]
  have : i = 0 ∨ i = 1 ∨ i = 2 := by omega
  rcases this with rfl | rfl | rfl
  · exact cell_blk h 0 rfl
  · exact cell_blk h 1 rfl
  · exact cell_blk h 2 rfl
theorem one_reads {w : World} {g : Nat} (x : Int) (h : w.heap[g]? = some (.cells #[.int .i64 x] 3 (0, 0))) : IReads w (some ⟨g, 0, none⟩) 1 1 [x] := by
  refine ⟨rfl, Nat.le_refl _, by unfold maxLen; omega, fun _ => ⟨g, 0, rfl, fun i hi => ?_⟩⟩
  rw [Nat.zero_add]
  have : i = 0 := by omega
  subst this
  exact cell_blk h 0 rfl
def t0 : Nat → Bool := fun _ => false
def t1 : Nat → Bool := Q.put t0 3
def t2 : Nat → Bool := Q.put t1 0
def t3 : Nat → Bool := Q.put t2 2
theorem t3_met : metB t3 4 2 = true := by decide
theorem t3_list : pick t3 true 4 = [0, 2, 3] := by decide
theorem t3_rest : pick t3 false 4 = [1] := by decide
/-- Where taken stands. -/
structure Tk (w wr : World) (b g : Nat) (m : Nat → Bool) : Prop where
  set : IsS wr b 4 2 1 m
  row : wr.heap[g]? = some (.cells #[.int .i64 3, .int .i64 0, .int .i64 2] 3 (0, 0))
  hb : w.heap.size ≤ b
  bg : b < g
  bel : Below w.heap.size w wr
theorem Tk.cells {w wr : World} {b g : Nat} {m : Nat → Bool} (t : Tk w wr b g m) : wr.cell? ⟨g, 0, none⟩ = some (.int .i64 3) ∧ wr.cell? ⟨g, 1, none⟩ = some (.int .i64 0) ∧ wr.cell? ⟨g, 2, none⟩ = some (.int .i64 2) := ⟨cell_blk t.row 0 rfl, cell_blk t.row 1 rfl, cell_blk t.row 2 rfl⟩
theorem Tk.add {w wr wr' : World} {b g : Nat} {m m' : Nat → Bool} (t : Tk w wr b g m) (h : IsS wr' b 4 2 1 m') (k : Kept (fun k => k = b) wr wr') : Tk w wr' b g m' :=
  ⟨h, k.get t.row (by have := t.bg; omega), t.hb, t.bg, t.bel.trans (k.below t.bel.size (fun k e => by subst e; exact t.hb))⟩
set_option maxRecDepth 100000 in
set_option maxHeartbeats 1000000 in
theorem taken (w : World) : Calls Try.prog 19 #[] w fun x w' => x = .returned (.bool true) ∧ Below w.heap.size w w' := by
  go_enter Try.func19, Try.ntmps19
  go_wp2_with fail
  refine (new_ok 4 2 1 w (by unfold okC; omega)).mono ?_
  rintro e w1 ⟨b, hb, rfl, hS, hB⟩
  have T0 : Hid (Tk w (w1.alloc (Obj.cells #[.int .i64 3, .int .i64 0, .int .i64 2] 3)) b w1.heap.size t0) :=
    ⟨hS.by ((Below.refl _ _).alloc (Nat.le_refl _) _), heap_alloc_new _ _, hb, hS.lt, hB.alloc hB.size _⟩
  obtain ⟨g, hg⟩ : ∃ g, w1.heap.size = g := ⟨_, rfl⟩
  clear hS hB hb
  go_wp2_with fail
  rw [hg] at T0
  go_loopw [4, 5, 6, 20] (fun _ _ _ i wr => (i = .int .i64 0 ∧ Hid (Tk w wr b g t0)) ∨ (i = .int .i64 1 ∧ Hid (Tk w wr b g t1)) ∨ (i = .int .i64 2 ∧ Hid (Tk w wr b g t2)) ∨ (i = .int .i64 3 ∧ Hid (Tk w wr b g t3))) (fun _ _ _ i _ => 3 - (intOf i).toNat)
  case atStart => exact .inl ⟨rfl, T0⟩
  case round =>
    rcases hrel with ⟨rfl, T⟩ | ⟨rfl, T⟩ | ⟨rfl, T⟩ | ⟨rfl, T⟩
    · obtain ⟨d0, d1, d2⟩ := T.out.cells
      go_wp2_with fail
      refine (add_in 3 wr T.out.set rfl).mono ?_
      rintro e w2 ⟨rfl, hs, hk⟩
      have T1 : Hid (Tk w w2 b g t1) := T.out.add hs hk
      have em : memI t0 3 = false := rfl
      rw [em]
      clear hs hk
      go_wp2_with fail
      go_roundw
      case rel => exact .inr (.inl ⟨rfl, T1⟩)
      case measure => simp [intOf]
    · obtain ⟨d0, d1, d2⟩ := T.out.cells
      go_wp2_with fail
      refine (add_in 0 wr T.out.set rfl).mono ?_
      rintro e w2 ⟨rfl, hs, hk⟩
      have T1 : Hid (Tk w w2 b g t2) := T.out.add hs hk
      have em : memI t1 0 = false := by decide
      rw [em]
      clear hs hk
      go_wp2_with fail
      go_roundw
      case rel => exact .inr (.inr (.inl ⟨rfl, T1⟩))
      case measure => simp [intOf]
    · obtain ⟨d0, d1, d2⟩ := T.out.cells
      go_wp2_with fail
      refine (add_in 2 wr T.out.set rfl).mono ?_
      rintro e w2 ⟨rfl, hs, hk⟩
      have T1 : Hid (Tk w w2 b g t3) := T.out.add hs hk
      have em : memI t2 2 = false := by decide
      rw [em]
      clear hs hk
      go_wp2_with fail
      go_roundw
      case rel => exact .inr (.inr (.inr ⟨rfl, T1⟩))
      case measure => simp [intOf]
    · go_wp2_with fail
      refine (met wr T.out.set).mono ?_
      rw [t3_met]
      rintro e w2 ⟨rfl, b2⟩
      go_wp2_with fail
      refine (list w2 (T.out.set.by b2)).mono ?_
      have e4 : (4 : Int).toNat = 4 := rfl
      rw [e4, t3_list]
      rintro e w3 ⟨v, rfl, ho, b3⟩
      obtain ⟨a, cap, rfl, hr, hlow⟩ := owns_ireads ho
      have R1 : Hid (IReads w3 a 3 cap [0, 2, 3]) := hr
      have S3 : Hid (IsS w3 b 4 2 1 t3) := (T.out.set.by b2).by b3
      have B3 : Hid (Below w.heap.size w w3) := T.out.bel.trans ((b2.mono T.out.bel.size).trans (b3.mono (Nat.le_trans T.out.bel.size b2.size)))
      clear ho hr hlow b2 b3
      go_wp2_with fail
      refine (sameInts a (some ⟨w3.heap.size, 0, none⟩) 3 cap 3 3 [0, 2, 3] [0, 2, 3] _ (R1.out.by ((Below.refl _ _).alloc (Nat.le_refl _) _)) (three_reads 0 2 3 (heap_alloc_new _ _))).mono ?_
      rintro e w4 ⟨rfl, k, rfl⟩
      rw [decide_eq_true rfl]
      have B4 : Hid (Below w.heap.size w ((w3.alloc (Obj.cells #[.int .i64 0, .int .i64 2, .int .i64 3] 3)).drewN k)) := bdrewN (B3.out.alloc B3.out.size _) k
      have S4 : Hid (IsS ((w3.alloc (Obj.cells #[.int .i64 0, .int .i64 2, .int .i64 3] 3)).drewN k) b 4 2 1 t3) := (S3.out.by ((Below.refl _ _).alloc (Nat.le_refl _) _)).drewN k
      generalize (w3.alloc (Obj.cells #[.int .i64 0, .int .i64 2, .int .i64 3] 3)).drewN k = w5 at B4 S4 ⊢
      go_wp2_with fail
      refine (rest w5 S4.out).mono ?_
      rw [e4, t3_rest]
      rintro e w6 ⟨v, rfl, ho, b6⟩
      obtain ⟨a2, cap2, rfl, hr, hlow⟩ := owns_ireads ho
      have R2 : Hid (IReads w6 a2 1 cap2 [1]) := hr
      have B6 : Hid (Below w.heap.size w w6) := B4.out.trans (b6.mono B4.out.size)
      clear ho hr hlow b6
      go_wp2_with fail
      refine (sameInts a2 (some ⟨w6.heap.size, 0, none⟩) 1 cap2 1 1 [1] [1] _ (R2.out.by ((Below.refl _ _).alloc (Nat.le_refl _) _)) (one_reads 1 (heap_alloc_new _ _))).mono ?_
      rintro e w7 ⟨rfl, k2, rfl⟩
      rw [decide_eq_true rfl]
      go_wp2_with fail
      go_ret
      exact ⟨rfl, bdrewN (B6.out.alloc B6.out.size _) k2⟩
end Go.Proofs.Ythcnpijgfhinhaa
