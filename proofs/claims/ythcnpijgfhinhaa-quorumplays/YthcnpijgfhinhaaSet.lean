import Derived.Test.YthcnpijgfhinhaaBase
namespace Go.Proofs.Ythcnpijgfhinhaa
open Go.RowKit

/-- A set of servers in a block of its own. -/
structure IsS (w : World) (b : Nat) (N K D : Int) (m : Nat → Bool) : Prop where
  blk : w.heap[b]? = some (.cells #[.int .i64 N, .int .i64 K, .int .i64 D, .int .u64 ((Q.wd m 0 : Nat) : Int), .int .u64 ((Q.wd m 1 : Nat) : Int), .int .u64 ((Q.wd m 2 : Nat) : Int), .int .u64 ((Q.wd m 3 : Nat) : Int)] 63 (0, 0))
  ok : okC N K D
  low : ∀ i, m i = true → (i : Int) < N
def inN (N s : Int) : Bool := decide (0 ≤ s ∧ s < N)
def memI (m : Nat → Bool) (s : Int) : Bool := decide (0 ≤ s) && m s.toNat
theorem IsS.lt {w : World} {b : Nat} {N K D : Int} {m : Nat → Bool} (h : IsS w b N K D m) : b < w.heap.size := block_lt h.blk
theorem IsS.cells {w : World} {b : Nat} {N K D : Int} {m : Nat → Bool} (h : IsS w b N K D m) : w.cell? ⟨b, 0, none⟩ = some (.int .i64 N) ∧ w.cell? ⟨b, 1, none⟩ = some (.int .i64 K) ∧ w.cell? ⟨b, 2, none⟩ = some (.int .i64 D) ∧
    w.cell? ⟨b, 3, none⟩ = some (.int .u64 ((Q.wd m 0 : Nat) : Int)) ∧ w.cell? ⟨b, 4, none⟩ = some (.int .u64 ((Q.wd m 1 : Nat) : Int)) ∧ w.cell? ⟨b, 5, none⟩ = some (.int .u64 ((Q.wd m 2 : Nat) : Int)) ∧ w.cell? ⟨b, 6, none⟩ = some (.int .u64 ((Q.wd m 3 : Nat) : Int)) :=
  ⟨cell_blk h.blk 0 rfl, cell_blk h.blk 1 rfl, cell_blk h.blk 2 rfl, cell_blk h.blk 3 rfl, cell_blk h.blk 4 rfl, cell_blk h.blk 5 rfl, cell_blk h.blk 6 rfl⟩
theorem IsS.kept {S : Nat → Prop} {w w' : World} {b : Nat} {N K D : Int} {m : Nat → Bool} (h : IsS w b N K D m) (k : Kept S w w') (hn : ¬ S b) : IsS w' b N K D m := ⟨k.get h.blk hn, h.ok, h.low⟩
theorem IsS.by {w w' : World} {b : Nat} {N K D : Int} {m : Nat → Bool} (h : IsS w b N K D m) (k : Below w.heap.size w w') : IsS w' b N K D m := ⟨(k.block b h.lt).trans h.blk, h.ok, h.low⟩
theorem IsS.drewN {w : World} {b : Nat} {N K D : Int} {m : Nat → Bool} (h : IsS w b N K D m) (n : Nat) : IsS (w.drewN n) b N K D m := ⟨h.blk, h.ok, h.low⟩
theorem known {b : Nat} {N K D : Int} {m : Nat → Bool} (s : Int) (w : World) (h : IsS w b N K D m) : Calls Try.prog 34 #[.pointer (some ⟨b, 0, none⟩), .int .i64 s] w fun x w' => x = .returned (.bool (inN N s)) ∧ w' = w := by
  have c := h.cells.1
  unfold inN
  clear h
  go_enter Try.func34, Try.ntmps34
  by_cases h : 0 ≤ s
  · go_wp2_with fail
    go_ret
    exact ⟨by simp [h], rfl⟩
  · go_wp2_with fail
    go_ret
    exact ⟨by simp; omega, rfl⟩
theorem memI_out {w : World} {b : Nat} {N K D : Int} {m : Nat → Bool} (h : IsS w b N K D m) {s : Int} (e : inN N s = false) : memI m s = false := by
  unfold memI
  by_cases hs : 0 ≤ s
  · simp [hs]
    cases q : m s.toNat
    · rfl
    · have := h.low _ q
      unfold inN at e
      simp at e
      omega
  · simp [hs]
theorem has_nil (s : Int) (w : World) : Calls Try.prog 13 #[.pointer none, .int .i64 s] w fun x w' => x = .returned (.bool false) ∧ w' = w := by
  go_enter Try.func13, Try.ntmps13
  go_wp2_with fail
  go_ret
  exact ⟨rfl, rfl⟩
theorem has_bits (m : Nat → Bool) (s : Int) (j : Nat) (h0 : 0 ≤ s) (hj : s / 64 = (j : Int)) : bits .and .u64 ((Q.wd m j : Nat) / 2 ^ (s % 64).toNat : Int) 1 = ((memI m s).toNat : Int) := by
  have hk : (s % 64).toNat < 64 := by omega
  have a := Q.wd_has m j (s % 64).toNat hk
  have l := Q.wd_lt m j
  have e : ((Q.wd m j : Nat) : Int) / 2 ^ (s % 64).toNat = ((Q.wd m j >>> (s % 64).toNat : Nat) : Int) := by
    rw [Nat.shiftRight_eq_div_pow]; simp
  have f : 64 * j + (s % 64).toNat = s.toNat := by omega
  have g : Q.wd m j >>> (s % 64).toNat < 18446744073709551616 := Nat.lt_of_le_of_lt (Nat.shiftRight_le _ _) l
  have := u64_and_nat (Q.wd m j >>> (s % 64).toNat) 1 g (by omega)
  rw [a, f] at this
  rw [e]
  unfold memI
  rw [decide_eq_true h0, Bool.true_and]
  exact this
theorem has {b : Nat} {N K D : Int} {m : Nat → Bool} (s : Int) (w : World) (h : IsS w b N K D m) : Calls Try.prog 13 #[.pointer (some ⟨b, 0, none⟩), .int .i64 s] w fun x w' => x = .returned (.bool (memI m s)) ∧ w' = w := by
  obtain ⟨c0, c1, c2, c3, c4, c5, c6⟩ := h.cells
  have H : Hid (IsS w b N K D m) := h
  cases e : inN N s
  · rw [memI_out h e]
    clear h
    go_enter Try.func13, Try.ntmps13
    go_wp2_with fail
    refine (known s w H.out).mono ?_
    rw [e]
    rintro x w1 ⟨rfl, rfl⟩
    go_wp2_with fail
    go_ret
    exact ⟨rfl, rfl⟩
  · have e' : 0 ≤ s ∧ s < N := by unfold inN at e; exact of_decide_eq_true e
    have hN := h.ok.2.2.1
    clear h
    go_enter Try.func13, Try.ntmps13
    go_wp2_with fail
    refine (known s w H.out).mono ?_
    rw [e]
    rintro x w1 ⟨rfl, rfl⟩
    have cj : s / 64 = 0 ∨ s / 64 = 1 ∨ s / 64 = 2 ∨ s / 64 = 3 := by omega
    rcases cj with j | j | j | j
    all_goals
      have F := has_bits m s _ e'.1 (j.trans (by first | exact (rfl : (0 : Int) = ((0 : Nat) : Int)) | exact (rfl : (1 : Int) = ((1 : Nat) : Int)) | exact (rfl : (2 : Int) = ((2 : Nat) : Int)) | exact (rfl : (3 : Int) = ((3 : Nat) : Int))))
      cases q : memI m s
      all_goals
        rw [q] at F
        go_wp2_with fail
        go_ret
        exact ⟨by rw [q]; rfl, rfl⟩
theorem add_nil (s : Int) (w : World) : Calls Try.prog 12 #[.pointer none, .int .i64 s] w fun x w' => x = .returned (.tuple #[.bool false, .int .i64 0]) ∧ w' = w := by
  go_enter Try.func12, Try.ntmps12
  go_wp2_with fail
  go_ret2
  exact ⟨rfl, rfl⟩
theorem add_out {b : Nat} {N K D : Int} {m : Nat → Bool} (s : Int) (w : World) (h : IsS w b N K D m) (e : inN N s = false) : Calls Try.prog 12 #[.pointer (some ⟨b, 0, none⟩), .int .i64 s] w fun x w' => x = .returned (.tuple #[.bool false, .int .i64 51]) ∧ w' = w := by
  have H : Hid (IsS w b N K D m) := h
  clear h
  go_enter Try.func12, Try.ntmps12
  go_wp2_with fail
  refine (known s w H.out).mono ?_
  rw [e]
  rintro x w1 ⟨rfl, rfl⟩
  go_wp2_with fail
  go_ret2
  exact ⟨rfl, rfl⟩
theorem put_bits (m : Nat → Bool) (s : Int) (j : Nat) (h0 : 0 ≤ s) (hj : s / 64 = (j : Int)) : bits .or .u64 ((Q.wd m j : Nat) : Int) (IntKind.u64.wrap (2 ^ (s % 64).toNat)) = ((Q.wd (Q.put m s.toNat) j : Nat) : Int) := by
  have hk : (s % 64).toNat < 64 := by omega
  have p : 2 ^ (s % 64).toNat < 2 ^ 64 := Nat.pow_lt_pow_right (by omega) hk
  have e : IntKind.u64.wrap (2 ^ (s % 64).toNat) = ((2 ^ (s % 64).toNat : Nat) : Int) := by
    have c : (2 : Int) ^ (s % 64).toNat = ((2 ^ (s % 64).toNat : Nat) : Int) := by simp
    rw [c, IntKind.wrap_u64]
    generalize 2 ^ (s % 64).toNat = z at p
    omega
  rw [e, u64_or_nat _ _ (Q.wd_lt m j) p]
  have a := Q.wd_put m s.toNat
  have f : s.toNat / 64 = j := by omega
  have g : s.toNat % 64 = (s % 64).toNat := by omega
  rw [f, g, Nat.one_shiftLeft] at a
  rw [a]
theorem IsS.added {w : World} {b : Nat} {N K D : Int} {m : Nat → Bool} (h : IsS w b N K D m) (s : Int) (j : Nat) (h0 : 0 ≤ s) (h1 : s < N) (hj : s / 64 = (j : Int)) : IsS (w.setCell ⟨b, 3 + j, none⟩ (.int .u64 ((Q.wd (Q.put m s.toNat) j : Nat) : Int))) b N K D (Q.put m s.toNat) := by
  have hN := h.ok.2.2.1
  refine ⟨(heap_set h.blk _ _).trans ?_, h.ok, fun i hi => ?_⟩
  · have o := fun k (hk : k ≠ j) => Q.wd_put_other m s.toNat k (by omega)
    have cj : j = 0 ∨ j = 1 ∨ j = 2 ∨ j = 3 := by omega
    rcases cj with rfl | rfl | rfl | rfl
    · rw [← o 1 (by omega), ← o 2 (by omega), ← o 3 (by omega)]; rfl
    · rw [← o 0 (by omega), ← o 2 (by omega), ← o 3 (by omega)]; rfl
    · rw [← o 0 (by omega), ← o 1 (by omega), ← o 3 (by omega)]; rfl
    · rw [← o 0 (by omega), ← o 1 (by omega), ← o 2 (by omega)]; rfl
  · unfold Q.put at hi
    by_cases q : i = s.toNat
    · omega
    · simp [q] at hi
      exact h.low i hi
theorem add_in {b : Nat} {N K D : Int} {m : Nat → Bool} (s : Int) (w : World) (h : IsS w b N K D m) (e : inN N s = true) : Calls Try.prog 12 #[.pointer (some ⟨b, 0, none⟩), .int .i64 s] w fun x w' => x = .returned (.tuple #[.bool (!memI m s), .int .i64 0]) ∧ IsS w' b N K D (Q.put m s.toNat) ∧ Kept (fun k => k = b) w w' := by
  obtain ⟨c0, c1, c2, c3, c4, c5, c6⟩ := h.cells
  have fz := fun i => soft_blk h.blk i
  have H : Hid (IsS w b N K D m) := h
  have e' : 0 ≤ s ∧ s < N := by unfold inN at e; exact of_decide_eq_true e
  have hN := h.ok.2.2.1
  clear h
  go_enter Try.func12, Try.ntmps12
  go_wp2_with fail
  refine (known s w H.out).mono ?_
  rw [e]
  rintro x w1 ⟨rfl, rfl⟩
  go_wp2_with fail
  refine (has s w1 H.out).mono ?_
  rintro x w2 ⟨rfl, rfl⟩
  have cj : s / 64 = 0 ∨ s / 64 = 1 ∨ s / 64 = 2 ∨ s / 64 = 3 := by omega
  have fin : ∀ j : Nat, s / 64 = (j : Int) → Hid (IsS (w2.setCell ⟨b, 3 + j, none⟩ (.int .u64 ((Q.wd (Q.put m s.toNat) j : Nat) : Int))).drew b N K D (Q.put m s.toNat) ∧ Kept (fun k => k = b) w2 (w2.setCell ⟨b, 3 + j, none⟩ (.int .u64 ((Q.wd (Q.put m s.toNat) j : Nat) : Int))).drew) := fun j hj =>
    have := H.out.added s j e'.1 e'.2 hj
    ⟨⟨this.blk, this.ok, this.low⟩, ((Kept.refl (fun k => k = b) w2).setCell (p := ⟨b, 3 + j, none⟩) (fun _ => rfl) _).drew⟩
  rcases cj with j | j | j | j
  · have f := fin 0 j
    have F := put_bits m s 0 e'.1 j
    clear fin
    go_wp2_with fail
    go_region
    go_wp2_with fail
    go_ret2
    exact ⟨rfl, f.out⟩
  · have f := fin 1 j
    have F := put_bits m s 1 e'.1 j
    clear fin
    go_wp2_with fail
    go_region
    go_wp2_with fail
    go_ret2
    exact ⟨rfl, f.out⟩
  · have f := fin 2 j
    have F := put_bits m s 2 e'.1 j
    clear fin
    go_wp2_with fail
    go_region
    go_wp2_with fail
    go_ret2
    exact ⟨rfl, f.out⟩
  · have f := fin 3 j
    have F := put_bits m s 3 e'.1 j
    clear fin
    go_wp2_with fail
    go_region
    go_wp2_with fail
    go_ret2
    exact ⟨rfl, f.out⟩
theorem new_ok (N K D : Int) (w : World) (h : okC N K D) : Calls Try.prog 9 #[.agg #[.int .i64 N, .int .i64 K, .int .i64 D]] w fun x w' => ∃ b, w.heap.size ≤ b ∧ x = .returned (.tuple #[.pointer (some ⟨b, 0, none⟩), .int .i64 0]) ∧ IsS w' b N K D (fun _ => false) ∧ Below w.heap.size w w' := by
  have B1 : Hid (Below w.heap.size w (w.alloc (Obj.cells #[.int .i64 N, .int .i64 K, .int .i64 D] 23))) := (Below.refl _ _).alloc (Nat.le_refl _) _
  go_enter Try.func9, Try.ntmps9
  go_wp2_with fail
  refine (check N K D _).mono ?_
  rw [errC_ok h]
  rintro e w1 ⟨rfl, b1⟩
  have c0 : w1.cell? ⟨w.heap.size, 0, none⟩ = some (.int .i64 N) := (b1.cell (by simp)).trans (by simp)
  have c1 : w1.cell? ⟨w.heap.size, 1, none⟩ = some (.int .i64 K) := (b1.cell (by simp)).trans (by simp)
  have c2 : w1.cell? ⟨w.heap.size, 2, none⟩ = some (.int .i64 D) := (b1.cell (by simp)).trans (by simp)
  have sz := b1.size
  simp at sz
  go_wp2_with fail
  go_ret2
  refine ⟨w1.heap.size, by omega, rfl, ⟨?_, h, fun _ q => by simp at q⟩, (B1.out.trans (b1.mono (by simp))).alloc (by omega) _⟩
  rw [heap_alloc_new]
  simp [Q.wd_none]
theorem new_not (N K D : Int) (w : World) (h : ¬ okC N K D) : Calls Try.prog 9 #[.agg #[.int .i64 N, .int .i64 K, .int .i64 D]] w fun x w' => x = .returned (.tuple #[.pointer none, .int .i64 40]) ∧ Below w.heap.size w w' := by
  have B1 : Hid (Below w.heap.size w (w.alloc (Obj.cells #[.int .i64 N, .int .i64 K, .int .i64 D] 23))) := (Below.refl _ _).alloc (Nat.le_refl _) _
  go_enter Try.func9, Try.ntmps9
  go_wp2_with fail
  refine (check N K D _).mono ?_
  rw [errC_not h]
  rintro e w1 ⟨rfl, b1⟩
  go_wp2_with fail
  go_ret2
  exact ⟨rfl, B1.out.trans (b1.mono (by simp))⟩
theorem len_nil (w : World) : Calls Try.prog 18 #[.pointer none] w fun x w' => x = .returned (.int .i64 0) ∧ w' = w := by
  go_enter Try.func18, Try.ntmps18
  go_wp2_with fail
  go_ret
  exact ⟨rfl, rfl⟩
/-- How many are in. -/
def sz (m : Nat → Bool) (N : Int) : Nat := Q.cnt m N.toNat
theorem index4 (a b c d : Int) : (∀ w : World, (Instr.index 61 (.agg #[.int .u64 a, .int .u64 b, .int .u64 c, .int .u64 d]) (.int .i64 0)).run Try.prog w = .ok (.int .u64 a) w) ∧ (∀ w : World, (Instr.index 61 (.agg #[.int .u64 a, .int .u64 b, .int .u64 c, .int .u64 d]) (.int .i64 1)).run Try.prog w = .ok (.int .u64 b) w) ∧
    (∀ w : World, (Instr.index 61 (.agg #[.int .u64 a, .int .u64 b, .int .u64 c, .int .u64 d]) (.int .i64 2)).run Try.prog w = .ok (.int .u64 c) w) ∧ (∀ w : World, (Instr.index 61 (.agg #[.int .u64 a, .int .u64 b, .int .u64 c, .int .u64 d]) (.int .i64 3)).run Try.prog w = .ok (.int .u64 d) w) :=
  ⟨fun _ => by kernel_rfl, fun _ => by kernel_rfl, fun _ => by kernel_rfl, fun _ => by kernel_rfl⟩
theorem len {b : Nat} {N K D : Int} {m : Nat → Bool} (w : World) (h : IsS w b N K D m) : Calls Try.prog 18 #[.pointer (some ⟨b, 0, none⟩)] w fun x w' => x = .returned (.int .i64 (sz m N : Int)) ∧ w' = w := by
  obtain ⟨c0, c1, c2, c3, c4, c5, c6⟩ := h.cells
  obtain ⟨o1, o2, o3, o4, o5⟩ := h.ok
  have T : Hid (Q.S 64 (Q.wb m 0) + Q.S 64 (Q.wb m 1) + Q.S 64 (Q.wb m 2) + Q.S 64 (Q.wb m 3) = sz m N) := Q.cnt_words m N.toNat (by omega) (fun i hi => by have := h.low i hi; omega)
  have lt : Hid (sz m N ≤ N.toNat) := Q.cnt_le m N.toNat
  have O : ∀ j (w : World), Hid (Calls Try.prog 36 #[.int .u64 ((Q.wd m j : Nat) : Int)] w fun x w' => x = .returned (.int .i64 ((Q.S 64 (Q.wb m j) : Nat) : Int)) ∧ w' = w) := fun j w => onesCount (Q.wb m j) (Q.wb_le m j) (Q.wb_out m j) _ _ rfl rfl w
  clear h
  have l0 : Q.S 64 (Q.wb m 0) + Q.S 64 (Q.wb m 1) + Q.S 64 (Q.wb m 2) + Q.S 64 (Q.wb m 3) ≤ 255 := by have := T.out; have := lt.out; omega
  obtain ⟨s0, h0⟩ : ∃ x, x = Q.S 64 (Q.wb m 0) := ⟨_, rfl⟩
  obtain ⟨s1, h1⟩ : ∃ x, x = Q.S 64 (Q.wb m 1) := ⟨_, rfl⟩
  obtain ⟨s2, h2⟩ : ∃ x, x = Q.S 64 (Q.wb m 2) := ⟨_, rfl⟩
  obtain ⟨s3, h3⟩ : ∃ x, x = Q.S 64 (Q.wb m 3) := ⟨_, rfl⟩
  have O0 := fun w => O 0 w
  have O1 := fun w => O 1 w
  have O2 := fun w => O 2 w
  have O3 := fun w => O 3 w
  rw [← h0, ← h1, ← h2, ← h3] at l0 T
  rw [← h0] at O0
  rw [← h1] at O1
  rw [← h2] at O2
  rw [← h3] at O3
  clear O h0 h1 h2 h3
  have G0 : Hid (∀ w : World, Hid (Calls Try.prog 36 #[.int .u64 ((Q.wd m 0 : Nat) : Int)] w fun x w' => x = .returned (.int .i64 (s0 : Int)) ∧ w' = w)) := O0
  have G1 : Hid (∀ w : World, Hid (Calls Try.prog 36 #[.int .u64 ((Q.wd m 1 : Nat) : Int)] w fun x w' => x = .returned (.int .i64 (s1 : Int)) ∧ w' = w)) := O1
  have G2 : Hid (∀ w : World, Hid (Calls Try.prog 36 #[.int .u64 ((Q.wd m 2 : Nat) : Int)] w fun x w' => x = .returned (.int .i64 (s2 : Int)) ∧ w' = w)) := O2
  have G3 : Hid (∀ w : World, Hid (Calls Try.prog 36 #[.int .u64 ((Q.wd m 3 : Nat) : Int)] w fun x w' => x = .returned (.int .i64 (s3 : Int)) ∧ w' = w)) := O3
  clear O0 O1 O2 O3
  obtain ⟨i0, i1, i2, i3⟩ := index4 (Q.wd m 0 : Nat) (Q.wd m 1 : Nat) (Q.wd m 2 : Nat) (Q.wd m 3 : Nat)
  go_enter Try.func18, Try.ntmps18
  go_wp2_with fail
  go_loop [3, 5, 12] (fun n u i => (i = .int .i64 0 ∧ n = .int .i64 0) ∨ (i = .int .i64 1 ∧ n = .int .i64 (s0 : Int)) ∨ (i = .int .i64 2 ∧ n = .int .i64 ((s0 + s1 : Nat) : Int)) ∨ (i = .int .i64 3 ∧ n = .int .i64 ((s0 + s1 + s2 : Nat) : Int)) ∨ (i = .int .i64 4 ∧ n = .int .i64 ((s0 + s1 + s2 + s3 : Nat) : Int))) (fun _ _ i => 4 - (intOf i).toNat)
  case atStart => exact .inl ⟨rfl, rfl⟩
  case round =>
    rcases hrel with ⟨rfl, rfl⟩ | ⟨rfl, rfl⟩ | ⟨rfl, rfl⟩ | ⟨rfl, rfl⟩ | ⟨rfl, rfl⟩
    · go_wp2_with fail
      refine (G0.out _).out.mono ?_
      rintro x w1 ⟨rfl, rfl⟩
      go_wp2_with fail
      go_round
      case rel => simp
      case measure => simp [intOf]
    · go_wp2_with fail
      refine (G1.out _).out.mono ?_
      rintro x w1 ⟨rfl, rfl⟩
      go_wp2_with fail
      go_round
      case rel => simp
      case measure => simp [intOf]
    · go_wp2_with fail
      refine (G2.out _).out.mono ?_
      rintro x w1 ⟨rfl, rfl⟩
      go_wp2_with fail
      go_round
      case rel => simp
      case measure => simp [intOf]
    · go_wp2_with fail
      refine (G3.out _).out.mono ?_
      rintro x w1 ⟨rfl, rfl⟩
      go_wp2_with fail
      go_round
      case rel => simp
      case measure => simp [intOf]
    · go_wp2_with fail
      go_ret
      exact ⟨by rw [← T.out]; rfl, rfl⟩
end Go.Proofs.Ythcnpijgfhinhaa
