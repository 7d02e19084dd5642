import Derived.Test.YthcnpijgfhinhaaTaken
namespace Go.Proofs.Ythcnpijgfhinhaa
open Go.RowKit

theorem rCheck (N K D : Int) (w : World) : Calls Try.prog 27 #[.agg #[.int .i64 N, .int .i64 K, .int .i64 D]] w fun x w' => x = .returned (.int .i64 (errC N K D)) ∧ Below w.heap.size w w' := by
  have bel := (Below.refl w.heap.size w).alloc (Nat.le_refl _) (Obj.cells #[.int .i64 N, .int .i64 K, .int .i64 D] 23)
  go_enter Try.func27, Try.ntmps27
  by_cases h : K < 1
  · rw [errC_not (by unfold okC; omega)]
    go_wp2_with fail
    go_ret
    exact ⟨rfl, bel⟩
  · by_cases h2 : N < K
    · rw [errC_not (by unfold okC; omega)]
      go_wp2_with fail
      go_ret
      exact ⟨rfl, bel⟩
    · by_cases h3 : 255 < N
      · rw [errC_not (by unfold okC; omega)]
        go_wp2_with fail
        go_ret
        exact ⟨rfl, bel⟩
      · by_cases h4 : D < 0
        · rw [errC_not (by unfold okC; omega)]
          go_wp2_with fail
          go_ret
          exact ⟨rfl, bel⟩
        · by_cases h5 : 4611686018427387903 < D
          · rw [errC_not (by unfold okC; omega)]
            go_wp2_with fail
            go_ret
            exact ⟨rfl, bel⟩
          · rw [errC_ok (by unfold okC; omega)]
            go_wp2_with fail
            go_ret
            exact ⟨rfl, bel⟩
theorem rSize_ok (N K D : Int) (w : World) (h : okC N K D) : Calls Try.prog 23 #[.agg #[.int .i64 N, .int .i64 K, .int .i64 D]] w fun x w' => x = .returned (.tuple #[.int .i64 (quo N K), .int .i64 0]) ∧ Below w.heap.size w w' := by
  obtain ⟨a1, a2, a3, a4, a5⟩ := h
  have B1 : Hid (Below w.heap.size w (w.alloc (Obj.cells #[.int .i64 N, .int .i64 K, .int .i64 D] 23))) := (Below.refl _ _).alloc (Nat.le_refl _) _
  go_enter Try.func23, Try.ntmps23
  go_wp2_with fail
  refine (rCheck N K D _).mono ?_
  rw [errC_ok ⟨a1, a2, a3, a4, a5⟩]
  rintro e w1 ⟨rfl, b1⟩
  have c0 : w1.cell? ⟨w.heap.size, 0, none⟩ = some (.int .i64 N) := (b1.cell (by simp)).trans (by simp)
  have c1 : w1.cell? ⟨w.heap.size, 1, none⟩ = some (.int .i64 K) := (b1.cell (by simp)).trans (by simp)
  have BB : Hid (Below w.heap.size w w1) := B1.out.trans (b1.mono (by simp))
  clear b1 B1
  go_wp2_with fail
  go_loopw [4] (fun x wr => ∃ i : Nat, x = .int .i64 (i : Int) ∧ (i : Int) ≤ quo N K ∧ wr = w1) (fun x _ => (quo N K).toNat - (intOf x).toNat)
  case atStart => exact ⟨0, rfl, by unfold quo; omega, rfl⟩
  case round =>
    obtain ⟨i, rfl, hi, rfl⟩ := hrel
    have qb : quo N K ≤ 255 := by unfold quo; omega
    by_cases hlt : 2 * (i : Int) < N + K
    · have hq : (i : Int) + 1 ≤ quo N K := by unfold quo; omega
      go_wp2_with fail
      go_roundw
      case rel => exact ⟨i + 1, by go_num, by omega, trivial⟩
      case measure => simp [intOf]; omega
    · have hq : quo N K = (i : Int) := by unfold quo at hi ⊢; omega
      go_wp2_with fail
      go_ret2
      exact ⟨rfl, BB.out⟩
theorem rSize_not (N K D : Int) (w : World) (h : ¬ okC N K D) : Calls Try.prog 23 #[.agg #[.int .i64 N, .int .i64 K, .int .i64 D]] w fun x w' => x = .returned (.tuple #[.int .i64 0, .int .i64 40]) ∧ Below w.heap.size w w' := by
  have B1 : Hid (Below w.heap.size w (w.alloc (Obj.cells #[.int .i64 N, .int .i64 K, .int .i64 D] 23))) := (Below.refl _ _).alloc (Nat.le_refl _) _
  go_enter Try.func23, Try.ntmps23
  go_wp2_with fail
  refine (rCheck N K D _).mono ?_
  rw [errC_not h]
  rintro e w1 ⟨rfl, b1⟩
  go_wp2_with fail
  go_ret2
  exact ⟨rfl, B1.out.trans (b1.mono (by simp))⟩
theorem rDown_ok (N K D : Int) (w : World) (h : okC N K D) : Calls Try.prog 24 #[.agg #[.int .i64 N, .int .i64 K, .int .i64 D]] w fun x w' => x = .returned (.tuple #[.int .i64 (N - quo N K), .int .i64 0]) ∧ Below w.heap.size w w' := by
  have B1 : Hid (Below w.heap.size w (w.alloc (Obj.cells #[.int .i64 N, .int .i64 K, .int .i64 D] 23))) := (Below.refl _ _).alloc (Nat.le_refl _) _
  go_enter Try.func24, Try.ntmps24
  go_wp2_with fail
  refine (rSize_ok N K D _ h).mono ?_
  rintro e w1 ⟨rfl, b1⟩
  have c0 : w1.cell? ⟨w.heap.size, 0, none⟩ = some (.int .i64 N) := (b1.cell (by simp)).trans (by simp)
  have e1 : IntKind.i64.wrap (N - quo N K) = N - quo N K := by obtain ⟨a1, a2, a3, a4, a5⟩ := h; unfold quo; rw [IntKind.wrap_i64]; omega
  go_wp2_with fail
  go_ret2
  exact ⟨rfl, B1.out.trans (b1.mono (by simp))⟩
theorem rDown_not (N K D : Int) (w : World) (h : ¬ okC N K D) : Calls Try.prog 24 #[.agg #[.int .i64 N, .int .i64 K, .int .i64 D]] w fun x w' => x = .returned (.tuple #[.int .i64 0, .int .i64 40]) ∧ Below w.heap.size w w' := by
  have B1 : Hid (Below w.heap.size w (w.alloc (Obj.cells #[.int .i64 N, .int .i64 K, .int .i64 D] 23))) := (Below.refl _ _).alloc (Nat.le_refl _) _
  go_enter Try.func24, Try.ntmps24
  go_wp2_with fail
  refine (rSize_not N K D _ h).mono ?_
  rintro e w1 ⟨rfl, b1⟩
  go_wp2_with fail
  go_ret2
  exact ⟨rfl, B1.out.trans (b1.mono (by simp))⟩
theorem rCommon_ok (N K D : Int) (w : World) (h : okC N K D) : Calls Try.prog 25 #[.agg #[.int .i64 N, .int .i64 K, .int .i64 D]] w fun x w' => x = .returned (.tuple #[.int .i64 (2 * quo N K - N), .int .i64 0]) ∧ Below w.heap.size w w' := by
  have B1 : Hid (Below w.heap.size w (w.alloc (Obj.cells #[.int .i64 N, .int .i64 K, .int .i64 D] 23))) := (Below.refl _ _).alloc (Nat.le_refl _) _
  go_enter Try.func25, Try.ntmps25
  go_wp2_with fail
  refine (rSize_ok N K D _ h).mono ?_
  rintro e w1 ⟨rfl, b1⟩
  have c0 : w1.cell? ⟨w.heap.size, 0, none⟩ = some (.int .i64 N) := (b1.cell (by simp)).trans (by simp)
  have e0 : IntKind.i64.wrap (2 * quo N K) = 2 * quo N K := by obtain ⟨a1, a2, a3, a4, a5⟩ := h; unfold quo; rw [IntKind.wrap_i64]; omega
  have e1 : IntKind.i64.wrap (2 * quo N K - N) = 2 * quo N K - N := by obtain ⟨a1, a2, a3, a4, a5⟩ := h; unfold quo; rw [IntKind.wrap_i64]; omega
  go_wp2_with fail
  go_ret2
  exact ⟨rfl, B1.out.trans (b1.mono (by simp))⟩
theorem rCommon_not (N K D : Int) (w : World) (h : ¬ okC N K D) : Calls Try.prog 25 #[.agg #[.int .i64 N, .int .i64 K, .int .i64 D]] w fun x w' => x = .returned (.tuple #[.int .i64 0, .int .i64 40]) ∧ Below w.heap.size w w' := by
  have B1 : Hid (Below w.heap.size w (w.alloc (Obj.cells #[.int .i64 N, .int .i64 K, .int .i64 D] 23))) := (Below.refl _ _).alloc (Nat.le_refl _) _
  go_enter Try.func25, Try.ntmps25
  go_wp2_with fail
  refine (rSize_not N K D _ h).mono ?_
  rintro e w1 ⟨rfl, b1⟩
  go_wp2_with fail
  go_ret2
  exact ⟨rfl, B1.out.trans (b1.mono (by simp))⟩
end Go.Proofs.Ythcnpijgfhinhaa
