import Derived.Test.YthcnpijgfhinhaaFilled
namespace Go.Proofs.Ythcnpijgfhinhaa
open Go.RowKit

/-- Where a law stands: its config lies in a block of its own. -/
structure Cf (w wr : World) (N K D : Int) : Prop where
  bel : Below w.heap.size w wr
  blk : wr.heap[w.heap.size]? = some (.cells #[.int .i64 N, .int .i64 K, .int .i64 D] 23 (0, 0))
theorem Cf.start (w : World) (N K D : Int) : Cf w (w.alloc (Obj.cells #[.int .i64 N, .int .i64 K, .int .i64 D] 23)) N K D := ⟨(Below.refl _ _).alloc (Nat.le_refl _) _, heap_alloc_new _ _⟩
theorem Cf.by {w wr w' : World} {N K D : Int} (c : Cf w wr N K D) (B : Below wr.heap.size wr w') : Cf w w' N K D := ⟨c.bel.trans (B.mono c.bel.size), (B.block _ (block_lt c.blk)).trans c.blk⟩
theorem Cf.kept {w wr w' : World} {N K D : Int} {b : Nat} (c : Cf w wr N K D) (B : Kept (fun k => k = b) wr w') (hb : w.heap.size < b) : Cf w w' N K D := ⟨c.bel.trans (B.below c.bel.size (fun j e => by omega)), B.get c.blk (by omega)⟩
theorem Cf.cells {w wr : World} {N K D : Int} (c : Cf w wr N K D) : wr.cell? ⟨w.heap.size, 0, none⟩ = some (.int .i64 N) ∧ wr.cell? ⟨w.heap.size, 1, none⟩ = some (.int .i64 K) ∧ wr.cell? ⟨w.heap.size, 2, none⟩ = some (.int .i64 D) := ⟨cell_blk c.blk 0 rfl, cell_blk c.blk 1 rfl, cell_blk c.blk 2 rfl⟩
theorem Cf.soft {w wr : World} {N K D : Int} (c : Cf w wr N K D) : wr.frozen? ⟨w.heap.size, 0, none⟩ = false ∧ wr.frozen? ⟨w.heap.size, 1, none⟩ = false ∧ wr.frozen? ⟨w.heap.size, 2, none⟩ = false := ⟨soft_blk c.blk 0, soft_blk c.blk 1, soft_blk c.blk 2⟩
theorem Cf.store {w wr : World} {N K D : Int} (c : Cf w wr N K D) (N' K' D' : Int) : Cf w (((wr.setCell ⟨w.heap.size, 0, none⟩ (.int .i64 N')).setCell ⟨w.heap.size, 1, none⟩ (.int .i64 K')).setCell ⟨w.heap.size, 2, none⟩ (.int .i64 D')) N' K' D' := by
  refine ⟨((c.bel.setCell (p := ⟨w.heap.size, 0, none⟩) (Nat.le_refl _) _).setCell (p := ⟨w.heap.size, 1, none⟩) (Nat.le_refl _) _).setCell (p := ⟨w.heap.size, 2, none⟩) (Nat.le_refl _) _, ?_⟩
  have h1 := heap_set c.blk 0 (.int .i64 N')
  have h2 := heap_set h1 1 (.int .i64 K')
  have h3 := heap_set h2 2 (.int .i64 D')
  exact h3
/-- The config and two sets of it. -/
structure Sh (w wr : World) (N K D : Int) (b1 b2 : Nat) (m1 m2 : Nat → Bool) : Prop where
  cf : Cf w wr N K D
  s1 : IsS wr b1 N K D m1
  s2 : IsS wr b2 N K D m2
  h1 : w.heap.size < b1
  h2 : b1 < b2
theorem Sh.by {w wr w' : World} {N K D : Int} {b1 b2 : Nat} {m1 m2 : Nat → Bool} (c : Sh w wr N K D b1 b2 m1 m2) (B : Below wr.heap.size wr w') : Sh w w' N K D b1 b2 m1 m2 := ⟨c.cf.by B, c.s1.by B, c.s2.by B, c.h1, c.h2⟩
theorem Sh.add1 {w wr w' : World} {N K D : Int} {b1 b2 : Nat} {m1 m2 m : Nat → Bool} (c : Sh w wr N K D b1 b2 m1 m2) (h : IsS w' b1 N K D m) (B : Kept (fun k => k = b1) wr w') : Sh w w' N K D b1 b2 m m2 := ⟨c.cf.kept B c.h1, h, c.s2.kept B (by have := c.h2; omega), c.h1, c.h2⟩
theorem Sh.add2 {w wr w' : World} {N K D : Int} {b1 b2 : Nat} {m1 m2 m : Nat → Bool} (c : Sh w wr N K D b1 b2 m1 m2) (h : IsS w' b2 N K D m) (B : Kept (fun k => k = b2) wr w') : Sh w w' N K D b1 b2 m1 m := ⟨c.cf.kept B (by have := c.h1; have := c.h2; omega), c.s1.kept B (by have := c.h2; omega), h, c.h1, c.h2⟩
/-- The servers from a to b - 1. -/
def rng (a b : Nat) : Nat → Bool := fun i => decide (a ≤ i ∧ i < b)
theorem rng_cnt (a b n : Nat) : Q.cnt (rng a b) n = min b n - a := by
  induction n with
  | zero => simp [Q.cnt]
  | succ n ih =>
    simp only [Q.cnt]
    rw [ih]
    unfold rng
    by_cases h : a ≤ n ∧ n < b
    · rw [decide_eq_true h]; simp only [Bool.toNat_true]; omega
    · rw [decide_eq_false h]; simp only [Bool.toNat_false]; omega
theorem rng_up (k : Nat) : Q.put (rng 0 k) k = rng 0 (k + 1) := by
  funext i; unfold Q.put rng
  rw [Bool.eq_iff_iff]; simp; omega
theorem rng_down (n k : Nat) (h : k < n) : Q.put (rng (n - k) n) (n - 1 - k) = rng (n - (k + 1)) n := by
  funext i; unfold Q.put rng
  rw [Bool.eq_iff_iff]; simp; omega
theorem rng_and (n k : Nat) (h : k ≤ n) : (fun i => rng 0 k i && rng (n - k) n i) = rng (n - k) k := by
  funext i; unfold rng
  rw [Bool.eq_iff_iff]; simp; omega
theorem common_and (m1 m2 : Nat → Bool) (N K : Int) (hN : 0 ≤ N) (h1 : metB m1 N K = true) (h2 : metB m2 N K = true) : 2 * quo N K - N ≤ (sz (fun i => m1 i && m2 i) N : Int) := by
  unfold metB at h1 h2
  have a := of_decide_eq_true h1
  have b := of_decide_eq_true h2
  have c := cnt_both m1 m2 N.toNat
  unfold sz at a b ⊢
  omega
theorem quo_low (N K D : Int) (h : okC N K D) : 1 ≤ quo N K ∧ quo N K ≤ N ∧ K ≤ 2 * quo N K - N ∧ 2 * quo N K - N ≤ K + 1 := by
  obtain ⟨a, b, c, _, _⟩ := h
  unfold quo
  omega
set_option maxRecDepth 100000 in
set_option maxHeartbeats 4000000 in
theorem share (N0 K0 D0 : Int) (a1 a2 : Option Addr) (len1 cap1 len2 cap2 : Nat) (l1 l2 : List Int) (w : World) (r1 : IReads w a1 len1 cap1 l1) (r2 : IReads w a2 len2 cap2 l2) :
    Calls Try.prog 4 #[.agg #[.int .i64 N0, .int .i64 K0, .int .i64 D0], .slice a1 len1 cap1, .slice a2 len2 cap2] w fun x w' => x = .returned (.bool true) ∧ Below w.heap.size w w' := by
  have R1 : Hid (IReads w a1 len1 cap1 l1) := r1
  have R2 : Hid (IReads w a2 len2 cap2 l2) := r2
  clear r1 r2
  have C0 : Hid (Cf w (w.alloc (Obj.cells #[.int .i64 N0, .int .i64 K0, .int .i64 D0] 23)) N0 K0 D0) := Cf.start w N0 K0 D0
  go_enter Try.func4, Try.ntmps4
  go_wp2_with fail
  refine (may N0 K0 D0 _).mono ?_
  rintro e w1 ⟨N, K, D, rfl, hok, b1⟩
  have OK : Hid (okC N K D) := hok
  have C1 : Hid (Cf w w1 N0 K0 D0) := C0.out.by b1
  obtain ⟨q0, q1, q2⟩ := C1.out.cells
  obtain ⟨f0, f1, f2⟩ := C1.out.soft
  have C2 : Hid (Cf w (((w1.setCell ⟨w.heap.size, 0, none⟩ (.int .i64 N)).setCell ⟨w.heap.size, 1, none⟩ (.int .i64 K)).setCell ⟨w.heap.size, 2, none⟩ (.int .i64 D)) N K D) := C1.out.store N K D
  clear b1 C0 C1 hok
  go_upto_region 2 with fail
  clear q0 q1 q2 f0 f1 f2
  obtain ⟨w2, hw2⟩ : ∃ w2, (((w1.setCell ⟨w.heap.size, 0, none⟩ (.int .i64 N)).setCell ⟨w.heap.size, 1, none⟩ (.int .i64 K)).setCell ⟨w.heap.size, 2, none⟩ (.int .i64 D)) = w2 := ⟨_, rfl⟩
  rw [hw2] at C2 ⊢
  clear hw2
  obtain ⟨q0, q1, q2⟩ := C2.out.cells
  obtain ⟨Q1, Q2, Q3, Q4⟩ := quo_low N K D OK.out
  obtain ⟨qv, hq⟩ : ∃ x, quo N K = x := ⟨_, rfl⟩
  have HQ : Hid (quo N K = qv) := hq
  rw [hq] at Q1 Q2 Q3 Q4
  clear hq
  have nb : 1 ≤ K ∧ K ≤ N ∧ N ≤ 255 := ⟨OK.out.1, OK.out.2.1, OK.out.2.2.1⟩
  go_wp2_with fail
  refine (common_ok N K D _ OK.out).mono ?_
  rw [HQ.out]
  rintro e w3 ⟨rfl, b3⟩
  have C3 : Hid (Cf w w3 N K D) := C2.out.by b3
  clear b3 C2 q0 q1 q2
  obtain ⟨q0, q1, q2⟩ := C3.out.cells
  go_wp2_with fail
  refine (size_ok N K D _ OK.out).mono ?_
  rw [HQ.out]
  rintro e w4 ⟨rfl, b4⟩
  have C4 : Hid (Cf w w4 N K D) := C3.out.by b4
  clear b4 C3 q0 q1 q2
  obtain ⟨q0, q1, q2⟩ := C4.out.cells
  go_wp2_with fail
  refine (filled N K D a1 len1 cap1 l1 _ OK.out (R1.out.by C4.out.bel)).mono ?_
  rintro e w5 ⟨A, m1, hA, rfl, hS, hm, b5⟩
  have C5 : Hid (Cf w w5 N K D ∧ IsS w5 A N K D m1 ∧ w.heap.size < A) := ⟨C4.out.by b5, hS, by have := block_lt C4.out.blk; omega⟩
  have M1 : Hid (metB m1 N K = true) := hm
  clear b5 C4 q0 q1 q2 hS hm hA
  obtain ⟨q0, q1, q2⟩ := C5.out.1.cells
  go_wp2_with fail
  refine (filled N K D a2 len2 cap2 l2 _ OK.out (R2.out.by C5.out.1.bel)).mono ?_
  rintro e w6 ⟨B, m2, hB, rfl, hS, hm, b6⟩
  have C6 : Hid (Sh w w6 N K D A B m1 m2) := ⟨C5.out.1.by b6, C5.out.2.1.by b6, hS, C5.out.2.2, by have := C5.out.2.1.lt; omega⟩
  have M2 : Hid (metB m2 N K = true) := hm
  clear b6 C5 q0 q1 q2 hS hm hB
  go_wp2_with fail
  refine (and_same _ C6.out.s1 C6.out.s2).mono ?_
  rintro e w7 ⟨X, hX, rfl, hS, b7⟩
  have C7 : Hid (Sh w w7 N K D A B m1 m2 ∧ IsS w7 X N K D (fun i => m1 i && m2 i)) := ⟨C6.out.by b7, hS⟩
  clear b7 C6 hS hX
  obtain ⟨q0, q1, q2⟩ := C7.out.1.cf.cells
  go_wp2_with fail
  refine (met _ C7.out.1.s1).mono ?_
  rw [M1.out]
  rintro e w8 ⟨rfl, b8⟩
  have C8 : Hid (Sh w w8 N K D A B m1 m2 ∧ IsS w8 X N K D (fun i => m1 i && m2 i)) := ⟨C7.out.1.by b8, C7.out.2.by b8⟩
  clear b8 C7 q0 q1 q2
  go_wp2_with fail
  refine (met _ C8.out.1.s2).mono ?_
  rw [M2.out]
  rintro e w9 ⟨rfl, b9⟩
  have C9 : Hid (Sh w w9 N K D A B m1 m2 ∧ IsS w9 X N K D (fun i => m1 i && m2 i)) := ⟨C8.out.1.by b9, C8.out.2.by b9⟩
  clear b9 C8
  obtain ⟨q0, q1, q2⟩ := C9.out.1.cf.cells
  go_wp2_with fail
  refine (len _ C9.out.2).mono ?_
  rintro e w10 ⟨rfl, rfl⟩
  have LL := common_and m1 m2 N K (by omega) M1.out M2.out
  rw [HQ.out] at LL
  obtain ⟨z, hz⟩ : ∃ z, sz (fun i => m1 i && m2 i) N = z := ⟨_, rfl⟩
  rw [hz] at LL ⊢
  clear hz
  go_upto_region 9 with fail
  clear M1 M2 LL
  have CA : Hid (Cf w w10 N K D) := C9.out.1.cf
  clear C9
  go_wp2_with fail
  refine (new_ok N K D _ OK.out).mono ?_
  rintro e w11 ⟨A2, hA, rfl, hS, b11⟩
  have CB : Hid (Cf w w11 N K D ∧ IsS w11 A2 N K D (fun _ => false) ∧ w.heap.size < A2) := ⟨CA.out.by b11, hS, by have := block_lt CA.out.blk; omega⟩
  clear b11 CA q0 q1 q2 hS hA
  obtain ⟨q0, q1, q2⟩ := CB.out.1.cells
  go_wp2_with fail
  refine (new_ok N K D _ OK.out).mono ?_
  rintro e w12 ⟨B2, hB, rfl, hS, b12⟩
  have e1 : (fun _ => false) = rng 0 0 := by funext i; simp [rng]
  have e2 : (fun _ => false) = rng (N.toNat - 0) N.toNat := by funext i; simp [rng]
  have CC : Hid (Sh w w12 N K D A2 B2 (rng 0 0) (rng (N.toNat - 0) N.toNat)) := ⟨CB.out.1.by b12, e1 ▸ CB.out.2.1.by b12, e2 ▸ hS, CB.out.2.2, by have := CB.out.2.1.lt; omega⟩
  clear b12 CB q0 q1 q2 hS hB e1 e2
  go_wp2_with fail
  go_loopw [19, 92] (fun _ x wr => ∃ i : Nat, x = .int .i64 (i : Int) ∧ (i : Int) ≤ qv ∧ Hid (Sh w wr N K D A2 B2 (rng 0 i) (rng (N.toNat - i) N.toNat))) (fun _ x _ => qv.toNat - (intOf x).toNat)
  case atStart => exact ⟨0, rfl, by omega, CC⟩
  case round =>
    obtain ⟨i, rfl, hi, F⟩ := hrel
    clear CC
    by_cases hlt : (i : Int) < qv
    · go_wp2_with fail
      refine (add_in (i : Int) _ F.out.s1 (by unfold inN; exact decide_eq_true (by omega))).mono ?_
      rintro e w13 ⟨rfl, h1, h2⟩
      have F2 : Hid (Sh w w13 N K D A2 B2 (rng 0 (i + 1)) (rng (N.toNat - i) N.toNat)) := F.out.add1 (by rw [Int.toNat_natCast, rng_up] at h1; exact h1) h2
      clear h1 h2 F
      obtain ⟨q0, q1, q2⟩ := F2.out.cf.cells
      go_wp2_with fail
      refine (add_in (N - 1 - (i : Int)) _ F2.out.s2 (by unfold inN; exact decide_eq_true (by omega))).mono ?_
      rintro e w14 ⟨rfl, h1, h2⟩
      have F3 : Hid (Sh w w14 N K D A2 B2 (rng 0 (i + 1)) (rng (N.toNat - (i + 1)) N.toNat)) := F2.out.add2 (by
        have e : (N - 1 - (i : Int)).toNat = N.toNat - 1 - i := by omega
        rw [e, rng_down N.toNat i (by omega)] at h1
        exact h1) h2
      clear h1 h2 F2 q0 q1 q2
      go_wp2_with fail
      go_roundw
      case rel => exact ⟨i + 1, by go_num, by omega, F3⟩
      case measure => simp [intOf]; omega
    · have he : qv = (i : Int) := by omega
      subst he
      have hiN : i ≤ N.toNat := by omega
      go_wp2_with fail
      refine (and_same _ F.out.s1 F.out.s2).mono ?_
      rintro e w15 ⟨X2, hX, rfl, hS, b15⟩
      rw [rng_and N.toNat i hiN] at hS
      have C7 : Hid (Sh w w15 N K D A2 B2 (rng 0 i) (rng (N.toNat - i) N.toNat) ∧ IsS w15 X2 N K D (rng (N.toNat - i) i)) := ⟨F.out.by b15, hS⟩
      have z1 : sz (rng 0 i) N = i := by unfold sz; rw [rng_cnt]; omega
      have z2 : sz (rng (N.toNat - i) N.toNat) N = i := by unfold sz; rw [rng_cnt]; omega
      have z3 : Hid ((sz (rng (N.toNat - i) i) N : Int) = 2 * (i : Int) - N) := by
        show (sz (rng (N.toNat - i) i) N : Int) = 2 * (i : Int) - N
        unfold sz; rw [rng_cnt]; omega
      have M1 : Hid (metB (rng 0 i) N K = true) := by
        show metB (rng 0 i) N K = true
        unfold metB; rw [z1, HQ.out]; exact decide_eq_true (Int.le_refl _)
      have M2 : Hid (metB (rng (N.toNat - i) N.toNat) N K = true) := by
        show metB (rng (N.toNat - i) N.toNat) N K = true
        unfold metB; rw [z2, HQ.out]; exact decide_eq_true (Int.le_refl _)
      clear hS hX b15 F z1 z2
      go_wp2_with fail
      refine (met _ C7.out.1.s1).mono ?_
      rw [M1.out]
      rintro e w16 ⟨rfl, b8⟩
      have C8 : Hid (Sh w w16 N K D A2 B2 (rng 0 i) (rng (N.toNat - i) N.toNat) ∧ IsS w16 X2 N K D (rng (N.toNat - i) i)) := ⟨C7.out.1.by b8, C7.out.2.by b8⟩
      clear b8 C7
      go_wp2_with fail
      refine (met _ C8.out.1.s2).mono ?_
      rw [M2.out]
      rintro e w17 ⟨rfl, b8⟩
      have C9 : Hid (Sh w w17 N K D A2 B2 (rng 0 i) (rng (N.toNat - i) N.toNat) ∧ IsS w17 X2 N K D (rng (N.toNat - i) i)) := ⟨C8.out.1.by b8, C8.out.2.by b8⟩
      clear b8 C8
      go_wp2_with fail
      refine (len _ C9.out.2).mono ?_
      rintro e w18 ⟨rfl, rfl⟩
      rw [z3.out]
      go_wp2_with fail
      refine (taken _).mono ?_
      rintro e w19 ⟨rfl, b9⟩
      have BB : Hid (Below w.heap.size w w19) := C9.out.1.cf.bel.trans (b9.mono C9.out.1.cf.bel.size)
      clear b9 C9
      go_wp2_with fail
      go_ret
      exact ⟨rfl, BB.out⟩
end Go.Proofs.Ythcnpijgfhinhaa
