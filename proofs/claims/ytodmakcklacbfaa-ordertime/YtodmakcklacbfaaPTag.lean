import Derived.Test.YtodmakcklacbfaaPCheck
import Derived.Sort.Grow
import Derived.Below
import Derived.Deep.RegionHeld3
namespace Go.Proofs.Ytodmakcklacbfaa
open Go.RowKit Go.Sort

/-- How two numbers are ordered. -/
def kIcmp (a b : Int) : Int := if a < b then -1 else if b < a then 1 else 0
/-- How two tags are ordered. -/
def kOrI (a b : Int) : Int := if a = 0 then b else a
def kTcmp (a b c d : Int) : Int := kOrI (kIcmp a c) (kIcmp b d)

theorem kCmp64 (a b : Int) (w : World) : Calls Try.prog 42 #[.int .i64 a, .int .i64 b] w fun x w' => x = .returned (.int .i64 (kIcmp a b)) ∧ w' = w := by
  unfold kIcmp
  go_enter Try.func42, Try.ntmps42
  by_cases h : a < b
  · go_wp2_with (go_in)
    go_ret
    exact ⟨by simp, rfl⟩
  · by_cases h2 : b < a
    · go_wp2_with (go_in)
      go_ret
      exact ⟨by simp, rfl⟩
    · go_wp2_with (go_in)
      go_ret
      exact ⟨by simp, rfl⟩
theorem kCmpInt (a b : Int) (w : World) : Calls Try.prog 31 #[.int .i64 a, .int .i64 b] w fun x w' => x = .returned (.int .i64 (kIcmp a b)) ∧ w' = w := by
  unfold kIcmp
  go_enter Try.func31, Try.ntmps31
  by_cases h : a < b
  · go_wp2_with (go_in)
    go_ret
    exact ⟨by simp, rfl⟩
  · by_cases h2 : b < a
    · go_wp2_with (go_in)
      go_ret
      exact ⟨by simp, rfl⟩
    · go_wp2_with (go_in)
      go_ret
      exact ⟨by simp, rfl⟩
theorem kOr2 (a b : Int) (B cap : Nat) (w : World) (h0 : w.cell? ⟨B, 0, none⟩ = some (.int .i64 a)) (h1 : w.cell? ⟨B, 1, none⟩ = some (.int .i64 b)) :
    Calls Try.prog 30 #[.slice (some ⟨B, 0, none⟩) 2 cap] w fun x w' => x = .returned (.int .i64 (kOrI a b)) ∧ w' = w := by
  unfold kOrI
  go_enter Try.func30, Try.ntmps30
  go_wp2_with fail
  go_loop [5, 8] (fun _ x => (x = .int .i64 0) ∨ (x = .int .i64 1 ∧ a = 0) ∨ (x = .int .i64 2 ∧ a = 0 ∧ b = 0)) (fun _ x => 2 - (intOf x).toNat)
  case atStart => exact .inl rfl
  case round =>
    rcases hrel with rfl | ⟨rfl, rfl⟩ | ⟨rfl, rfl, rfl⟩
    · by_cases h : a = 0
      · subst h
        go_wp2_with fail
        go_round
        case rel => simp
        case measure => simp [intOf]
      · go_wp2_with fail
        go_ret
        exact ⟨by simp, rfl⟩
    · by_cases h : b = 0
      · subst h
        go_wp2_with fail
        go_round
        case rel => simp
        case measure => simp [intOf]
      · go_wp2_with fail
        go_ret
        exact ⟨by simp, rfl⟩
    · go_wp2_with fail
      go_ret
      exact ⟨by simp, rfl⟩
/-- Compare lays blocks and draws, no more. -/
theorem kCompareGrow (a b c d : Int) (w : World) : Calls Try.prog 13 #[.agg #[.int .i64 a, .int .i64 b], .agg #[.int .i64 c, .int .i64 d]] w fun x w' => x = .returned (.int .i64 (kTcmp a b c d)) ∧ ∃ q os, w' = grow (w.drewN q) os := by
  unfold kTcmp
  have B1 : Hid (grow (w.drewN 0) #[Obj.cells #[.int .i64 a, .int .i64 b] 35, Obj.cells #[.int .i64 c, .int .i64 d] 35] = ((w.alloc (Obj.cells #[.int .i64 a, .int .i64 b] 35)).alloc (Obj.cells #[.int .i64 c, .int .i64 d] 35))) := by
    show _ = _
    rw [alloc_eq_grow, alloc_eq_grow, grow_grow]; rfl
  go_enter Try.func13, Try.ntmps13
  go_wp2_with fail
  have g0 : ((w.alloc (Obj.cells #[.int .i64 a, .int .i64 b] 35)).alloc (Obj.cells #[.int .i64 c, .int .i64 d] 35)).cell? ⟨w.heap.size, 0, none⟩ = some (.int .i64 a) := by simp
  have g1 : ((w.alloc (Obj.cells #[.int .i64 a, .int .i64 b] 35)).alloc (Obj.cells #[.int .i64 c, .int .i64 d] 35)).cell? ⟨w.heap.size, 1, none⟩ = some (.int .i64 b) := by simp
  have g2 : ((w.alloc (Obj.cells #[.int .i64 a, .int .i64 b] 35)).alloc (Obj.cells #[.int .i64 c, .int .i64 d] 35)).cell? ⟨w.heap.size + 1, 0, none⟩ = some (.int .i64 c) := by simp
  have g3 : ((w.alloc (Obj.cells #[.int .i64 a, .int .i64 b] 35)).alloc (Obj.cells #[.int .i64 c, .int .i64 d] 35)).cell? ⟨w.heap.size + 1, 1, none⟩ = some (.int .i64 d) := by simp
  have sz : ((w.alloc (Obj.cells #[.int .i64 a, .int .i64 b] 35)).alloc (Obj.cells #[.int .i64 c, .int .i64 d] 35)).heap.size = w.heap.size + 2 := by simp
  generalize (w.alloc (Obj.cells #[.int .i64 a, .int .i64 b] 35)).alloc (Obj.cells #[.int .i64 c, .int .i64 d] 35) = w1 at g0 g1 g2 g3 sz B1 ⊢
  go_region_held3 (fun w' => w'.cell? ⟨w.heap.size, 0, none⟩ = some (.int .i64 a) ∧ w'.cell? ⟨w.heap.size, 1, none⟩ = some (.int .i64 b) ∧ w'.cell? ⟨w.heap.size + 1, 0, none⟩ = some (.int .i64 c) ∧ w'.cell? ⟨w.heap.size + 1, 1, none⟩ = some (.int .i64 d))
    (go_keep) (first | (go_at_call 42; refine (kCmp64 _ _ _).mono ?_; rintro x w2 ⟨rfl, rfl⟩) | (go_at_call 31; refine (kCmpInt _ _ _).mono ?_; rintro x w2 ⟨rfl, rfl⟩) | (go_at_call 30; refine (kOr2 (kIcmp a c) (kIcmp b d) _ _ _ (by rw [← sz]; simp) (by rw [← sz]; simp)).mono ?_; rintro x w2 ⟨rfl, rfl⟩) | fail)
  go_wp2_with fail
  go_ret
  refine ⟨rfl, 1, #[Obj.cells #[.int .i64 a, .int .i64 b] 35, Obj.cells #[.int .i64 c, .int .i64 d] 35, Obj.cells #[.int .i64 (kIcmp a c), .int .i64 (kIcmp b d)] 3], ?_⟩
  rw [← B1.out, alloc_eq_grow, grow_grow]
  rfl
/-- May a tag be, and is it not the initial one? -/
def kIsProper (a b : Int) : Bool := decide (1 ≤ a ∧ a ≤ 4611686018427387903 ∧ 1 ≤ b ∧ b ≤ 65535)
def kIsZero (a b : Int) : Bool := decide (a = 0 ∧ b = 0)
def kIsClientB (n : Int) : Bool := decide (1 ≤ n ∧ n ≤ 65535)
theorem kIsClient (n : Int) (w : World) : Calls Try.prog 111 #[.int .i64 n] w fun x w' => x = .returned (.bool (kIsClientB n)) ∧ w' = w := by
  unfold kIsClientB
  go_enter Try.func111, Try.ntmps111
  by_cases h : 1 ≤ n
  · by_cases h2 : n ≤ 65535
    · go_wp2_with fail
      go_ret
      exact ⟨by simp [h, h2], rfl⟩
    · go_wp2_with fail
      go_ret
      exact ⟨by simp [h2], rfl⟩
  · go_wp2_with fail
    go_ret
    exact ⟨by simp; omega, rfl⟩
theorem kZero (a b : Int) (w : World) : Calls Try.prog 12 #[.agg #[.int .i64 a, .int .i64 b]] w fun x w' => x = .returned (.bool (kIsZero a b)) ∧ Below w.heap.size w w' := by
  unfold kIsZero
  go_enter Try.func12, Try.ntmps12
  by_cases h : a = 0
  · by_cases h2 : b = 0
    · go_wp2_with fail
      go_ret
      exact ⟨by simp [h, h2], (Below.refl _ _).alloc (Nat.le_refl _) _⟩
    · go_wp2_with fail
      go_ret
      exact ⟨by simp [h, h2], (Below.refl _ _).alloc (Nat.le_refl _) _⟩
  · go_wp2_with fail
    go_ret
    exact ⟨by simp [h], (Below.refl _ _).alloc (Nat.le_refl _) _⟩
theorem kProper (a b : Int) (w : World) : Calls Try.prog 102 #[.agg #[.int .i64 a, .int .i64 b]] w fun x w' => x = .returned (.bool (kIsProper a b)) ∧ Below w.heap.size w w' := by
  have bel := (Below.refl w.heap.size w).alloc (Nat.le_refl _) (Obj.cells #[.int .i64 a, .int .i64 b] 35)
  have BH : Hid (Below w.heap.size w (w.alloc (Obj.cells #[.int .i64 a, .int .i64 b] 35))) := bel
  clear bel
  unfold kIsProper
  go_enter Try.func102, Try.ntmps102
  by_cases h : 1 ≤ a
  · by_cases h2 : a ≤ 4611686018427387903
    · go_wp2_with (first | (go_at_call 111; refine (kIsClient _ _).mono ?_; rintro x w1 ⟨rfl, rfl⟩) | fail)
      go_ret
      exact ⟨by simp [kIsClientB, h, h2], BH.out⟩
    · go_wp2_with fail
      go_ret
      exact ⟨by simp; omega, BH.out⟩
  · go_wp2_with fail
    go_ret
    exact ⟨by simp; omega, BH.out⟩
theorem kValid (a b : Int) (w : World) : Calls Try.prog 87 #[.agg #[.int .i64 a, .int .i64 b]] w fun x w' => x = .returned (.bool (kIsZero a b || kIsProper a b)) ∧ Below w.heap.size w w' := by
  have B0 : Hid (Below w.heap.size w (w.alloc (Obj.cells #[.int .i64 a, .int .i64 b] 35))) := (Below.refl w.heap.size w).alloc (Nat.le_refl _) _
  go_enter Try.func87, Try.ntmps87
  go_wp2_with fail
  refine (kZero a b _).mono ?_
  rintro x w1 ⟨rfl, B1'⟩
  have B1 : Hid (Below _ _ _) := B1'
  clear B1'
  have c0 : w1.cell? ⟨w.heap.size, 0, none⟩ = some (.int .i64 a) := (B1.out.cell (by simp)).trans (by simp)
  have c1 : w1.cell? ⟨w.heap.size, 1, none⟩ = some (.int .i64 b) := (B1.out.cell (by simp)).trans (by simp)
  have B1 : Hid (Below w.heap.size w w1) := B0.out.trans (B1.out.mono (by simp))
  cases h : kIsZero a b
  · go_wp2_with fail
    refine (kProper a b _).mono ?_
    rintro x w2 ⟨rfl, B2⟩
    have B2 : Hid (Below w.heap.size w w2) := B1.out.trans (B2.mono B1.out.size)
    go_wp2_with fail
    go_ret
    exact ⟨by simp [h], B2.out⟩
  · go_wp2_with fail
    go_ret
    exact ⟨by simp [h], B1.out⟩

end Go.Proofs.Ytodmakcklacbfaa
