import Derived.Test.YtpgfmoddhjhlkaaStepCut
import Derived.Test.YtpgfmoddhjhlkaaRefHigh
namespace Go.Proofs.Ytpgfmoddhjhlkaa
open Go.RowKit

theorem high_same {S R : List (Int × Int)} {len : Nat} {z K p q c p' q' c' : Int} (hS : Rising S) (hP : R.Perm S) (hl : S.length = len) (hb : len * 16 ≤ 211106232532992) (hz : -9223372036854775808 ≤ z ∧ z < 9223372036854775808)
    (hK : IntKind.i64.wrap (IntKind.i64.wrap ((len : Int) - 1) - z) = K) (h1 : HighS S z p q c) (h2 : HighIs R K p' q' c') : p' = p ∧ q' = q ∧ c' = c := by
  have hRl : R.length = len := by rw [hP.length_eq, hl]
  have at_R : ∀ j, j < R.length → ∃ i, ∃ (h : i < S.length), R.getD j (0, 0) = S[i] ∧ ahead R (R.getD j (0, 0)) = i := fun j hj => by
    have hm : R.getD j (0, 0) ∈ S := by
      rw [getD_eq R j hj]
      exact hP.subset (List.getElem_mem _)
    obtain ⟨i, hi, e⟩ := List.getElem_of_mem hm
    exact ⟨i, hi, e.symm, by rw [← e, ahead_perm hP, ahead_at S hS i hi]⟩
  rw [IntKind.wrap_i64, IntKind.wrap_i64] at hK
  rcases h1 with ⟨z0, z1, e, rfl⟩ | ⟨zn, rfl, rfl, rfl⟩
  · have hKz : K = (len : Int) - 1 - z := by omega
    obtain ⟨kk, hkk⟩ : ∃ kk : Nat, kk = S.length - 1 - z.toNat := ⟨_, rfl⟩
    have hkl : kk < S.length := by omega
    rw [← hkk, getD_eq S kk hkl] at e
    rcases h2 with ⟨j, hj, ha, er, rfl⟩ | ⟨hn, _⟩
    · obtain ⟨i, hi, e2, e3⟩ := at_R j hj
      have : i = kk := by omega
      subst this
      rw [er] at e2
      rw [e] at e2
      simp at e2
      exact ⟨e2.1, e2.2, rfl⟩
    · have hm : S[kk] ∈ R := hP.symm.subset (List.getElem_mem _)
      obtain ⟨j, hj, ej⟩ := List.getElem_of_mem hm
      refine absurd ?_ (hn j hj)
      rw [getD_eq R j hj, ej, ahead_perm hP, ahead_at S hS kk hkl]
      omega
  · rcases h2 with ⟨j, hj, ha, er, rfl⟩ | ⟨_, rfl, rfl, rfl⟩
    · obtain ⟨i, hi, e2, e3⟩ := at_R j hj
      omega
    · exact ⟨rfl, rfl, rfl⟩
set_option maxRecDepth 100000 in
set_option maxHeartbeats 1000000 in
theorem step_high (N : Nat) (w0 : World) (B C : Nat) (q r : Option Addr) (len c1 m c2 : Nat) (S R : List (Int × Int)) (x y n : Int) (w : World) (h : Two N w0 w B C q r len c1 m c2 S R) (hz : -9223372036854775808 ≤ n ∧ n < 9223372036854775808) (hb : (len + 1) * 16 ≤ 211106232532992) :
    Calls Try.prog 21 #[.pointer (some ⟨B, 0, none⟩), .pointer (some ⟨C, 0, none⟩), opV 2 x y n] w (Stepped N w0 B C len) := by
  have b1 : Below w.heap.size w (w.alloc (opC 2 x y n)) := (Below.refl _ _).alloc (Nat.le_refl _) _
  have hl := h.s.row.length
  have hm : m = len := by
    have e1 := h.rf.row.length
    have := h.perm.length_eq
    omega
  subst hm
  have HS : Hid (∀ p q' c p' q'' c', HighS S n p q' c → HighIs R (IntKind.i64.wrap (IntKind.i64.wrap ((m : Int) - 1) - n)) p' q'' c' → p' = p ∧ q'' = q' ∧ c' = c) := fun p q' c p' q'' c' h1 h2 => high_same h.rise h.perm hl (by omega) hz rfl h1 h2
  have H : Hid (∀ w1, Below w.heap.size w w1 → Two N w0 w1 B C q r m c1 m c2 S R) := fun w1 b => h.by b
  have blk : (w.alloc (opC 2 x y n)).heap[w.heap.size]? = some (opC 2 x y n) := heap_alloc_new w _
  have S0 : Hid (Below w.heap.size w (w.alloc (opC 2 x y n)) ∧ (w.alloc (opC 2 x y n)).heap[w.heap.size]? = some (opC 2 x y n)) := ⟨b1, blk⟩
  clear h b1 blk hl
  unfold opV
  unfold opC at S0
  go_enter Try.func21, Try.ntmps21
  go_wp2_with fail
  refine (sHigh B q m c1 S n _ (H.out _ S0.out.1).s.sv (by omega)).mono ?_
  rintro o w1 ⟨p1, q1, e1, rfl, A1, B1⟩
  have S1 : Hid (Below w.heap.size w (w1.alloc (.cells #[.int .i64 p1, .int .i64 q1] 24)) ∧ TagAt (w1.alloc (.cells #[.int .i64 p1, .int .i64 q1] 24)) w1.heap.size p1 q1 ∧ HighS S n p1 q1 e1) := by
    have b : Below w.heap.size w w1 := S0.out.1.trans (B1.mono S0.out.1.size)
    exact ⟨b.alloc b.size _, TagAt.new w1 p1 q1, A1⟩
  have lx : w.heap.size < w1.heap.size := Nat.lt_of_lt_of_le (block_lt S0.out.2) B1.size
  have bk1 := (B1.block _ (block_lt S0.out.2)).trans S0.out.2
  have t3 : w1.cell? ⟨w.heap.size, 3, none⟩ = some (.int .i64 n) := cell_blk bk1 3 rfl
  clear A1 B1 S0 bk1
  go_wp2_with fail
  refine (rHigh C r m c2 R n _ (H.out _ S1.out.1).rf.sv _ rfl).mono ?_
  rintro o w2 ⟨p2, q2, e2, rfl, A2, B2⟩
  obtain ⟨rfl, rfl, rfl⟩ := HS.out _ _ _ _ _ _ S1.out.2.2 A2
  have T1 : TagAt w2 w1.heap.size p2 q2 := S1.out.2.1.by B2
  have S2 : Hid (Below w.heap.size w (w2.alloc (.cells #[.int .i64 p2, .int .i64 q2] 24))) := by
    have b : Below w.heap.size w w2 := S1.out.1.trans (B2.mono S1.out.1.size)
    exact b.alloc b.size _
  have lx2 := T1.lt
  obtain ⟨s0, s1, _, _⟩ := T1.facts
  clear A2 B2 T1 S1 HS t3 lx
  go_wp2_with fail
  go_ret
  exact ⟨by simp, q, r, m, c1, m, c2, S, R, H.out _ S2.out, by omega⟩
end Go.Proofs.Ytpgfmoddhjhlkaa
