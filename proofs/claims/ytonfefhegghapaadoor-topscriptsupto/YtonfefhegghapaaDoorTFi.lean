import Derived.Test.YtonfefhegghapaaDoorTGu
import Derived.Test.YtonfefhegghapaaDoorTAb
namespace Go.Proofs.YtonfefhegghapaaDoor
open Go.RowKit 

def b2 (p : Prop) [Decidable p] (n : Nat) : Nat := if p then n else 0
/-- What of a step is not zero. -/
def filN (x : Sm) : Nat := b2 (x.a ≠ 0) 1 + b2 (x.b ≠ 0) 2 + b2 (0 < x.key.size) 4 + b2 (0 < x.vn) 8 + b2 (0 < x.ln) 16
theorem b2_yes {p : Prop} [Decidable p] (h : p) (n : Nat) : b2 p n = n := if_pos h
theorem b2_no {p : Prop} [Decidable p] (h : ¬ p) (n : Nat) : b2 p n = 0 := if_neg h
/-- The lengths are ones that lists have. -/
structure SmL (x : Sm) : Prop where
  a : KI x.a
  b : KI x.b
  kind : KI x.kind
  key : x.key.size ≤ 9223372036854775807
  v : x.vn ≤ 9223372036854775807
  l : x.ln ≤ 9223372036854775807
set_option maxRecDepth 100000 in
set_option maxHeartbeats 4000000 in
theorem hFilled (x : Sm) (w : World) (L : SmL x) : Calls Tryd.prog 32 #[.agg x.cs] w fun o w' => o = .returned (.int .u8 (filN x : Int)) ∧ Kept (fun _ => False) w w' := by
  obtain ⟨R, hR⟩ : ∃ R, filN x = R := ⟨_, rfl⟩
  rw [hR]
  unfold filN at hR
  obtain ⟨kind, a, b, key, va, vn, vc, la, ln, lc⟩ := x
  have l1 := L.key
  have l2 := L.v
  have l3 := L.l
  have l4 := L.a.1
  have l5 := L.a.2
  have l6 := L.b.1
  have l7 := L.b.2
  clear L
  dsimp only at hR l1 l2 l3 l4 l5 l6 l7
  show Calls Tryd.prog 32 #[.agg #[.int .i64 kind, .int .i64 a, .int .i64 b, .string key, .slice va vn vc, .slice la ln lc]] w _
  have HR : Hid (b2 (a ≠ 0) 1 + b2 (b ≠ 0) 2 + b2 (0 < key.size) 4 + b2 (0 < vn) 8 + b2 (0 < ln) 16 = R) := hR
  clear hR
  by_cases h1 : a ≠ 0
  · have g1 : ¬ a = 0 := h1
    by_cases h2 : b ≠ 0
    · have g2 : ¬ b = 0 := h2
      by_cases h3 : 0 < key.size
      · have g3 : (0 : Int) < (key.size : Int) := by omega
        have g3n : ¬ key.size = 0 := by omega
        by_cases h4 : 0 < vn
        · have g4 : (0 : Int) < (vn : Int) := by omega
          by_cases h5 : 0 < ln
          · have g5 : (0 : Int) < (ln : Int) := by omega
            have e : R = 31 := by rw [← HR.out, b2_yes h1, b2_yes h2, b2_yes h3, b2_yes h4, b2_yes h5]
            subst e
            go_enter Tryd.func32, Tryd.ntmps32
            go_wp2_with fail
            go_ret
            exact ⟨by first | rfl | decide | (congr 2), (Kept.refl _ _).alloc _⟩
          · have g5 : ¬ (0 : Int) < (ln : Int) := by omega
            have e : R = 15 := by rw [← HR.out, b2_yes h1, b2_yes h2, b2_yes h3, b2_yes h4, b2_no h5]
            subst e
            go_enter Tryd.func32, Tryd.ntmps32
            go_wp2_with fail
            go_ret
            exact ⟨by first | rfl | decide | (congr 2), (Kept.refl _ _).alloc _⟩
        · have g4 : ¬ (0 : Int) < (vn : Int) := by omega
          by_cases h5 : 0 < ln
          · have g5 : (0 : Int) < (ln : Int) := by omega
            have e : R = 23 := by rw [← HR.out, b2_yes h1, b2_yes h2, b2_yes h3, b2_no h4, b2_yes h5]
            subst e
            go_enter Tryd.func32, Tryd.ntmps32
            go_wp2_with fail
            go_ret
            exact ⟨by first | rfl | decide | (congr 2), (Kept.refl _ _).alloc _⟩
          · have g5 : ¬ (0 : Int) < (ln : Int) := by omega
            have e : R = 7 := by rw [← HR.out, b2_yes h1, b2_yes h2, b2_yes h3, b2_no h4, b2_no h5]
            subst e
            go_enter Tryd.func32, Tryd.ntmps32
            go_wp2_with fail
            go_ret
            exact ⟨by first | rfl | decide | (congr 2), (Kept.refl _ _).alloc _⟩
      · have g3 : ¬ (0 : Int) < (key.size : Int) := by omega
        have g3n : key.size = 0 := by omega
        by_cases h4 : 0 < vn
        · have g4 : (0 : Int) < (vn : Int) := by omega
          by_cases h5 : 0 < ln
          · have g5 : (0 : Int) < (ln : Int) := by omega
            have e : R = 27 := by rw [← HR.out, b2_yes h1, b2_yes h2, b2_no h3, b2_yes h4, b2_yes h5]
            subst e
            go_enter Tryd.func32, Tryd.ntmps32
            go_wp2_with fail
            go_ret
            exact ⟨by first | rfl | decide | (congr 2), (Kept.refl _ _).alloc _⟩
          · have g5 : ¬ (0 : Int) < (ln : Int) := by omega
            have e : R = 11 := by rw [← HR.out, b2_yes h1, b2_yes h2, b2_no h3, b2_yes h4, b2_no h5]
            subst e
            go_enter Tryd.func32, Tryd.ntmps32
            go_wp2_with fail
            go_ret
            exact ⟨by first | rfl | decide | (congr 2), (Kept.refl _ _).alloc _⟩
        · have g4 : ¬ (0 : Int) < (vn : Int) := by omega
          by_cases h5 : 0 < ln
          · have g5 : (0 : Int) < (ln : Int) := by omega
            have e : R = 19 := by rw [← HR.out, b2_yes h1, b2_yes h2, b2_no h3, b2_no h4, b2_yes h5]
            subst e
            go_enter Tryd.func32, Tryd.ntmps32
            go_wp2_with fail
            go_ret
            exact ⟨by first | rfl | decide | (congr 2), (Kept.refl _ _).alloc _⟩
          · have g5 : ¬ (0 : Int) < (ln : Int) := by omega
            have e : R = 3 := by rw [← HR.out, b2_yes h1, b2_yes h2, b2_no h3, b2_no h4, b2_no h5]
            subst e
            go_enter Tryd.func32, Tryd.ntmps32
            go_wp2_with fail
            go_ret
            exact ⟨by first | rfl | decide | (congr 2), (Kept.refl _ _).alloc _⟩
    · have g2 : b = 0 := Decidable.of_not_not h2
      have g2b : (b != 0) = false := by rw [g2]; rfl
      by_cases h3 : 0 < key.size
      · have g3 : (0 : Int) < (key.size : Int) := by omega
        have g3n : ¬ key.size = 0 := by omega
        by_cases h4 : 0 < vn
        · have g4 : (0 : Int) < (vn : Int) := by omega
          by_cases h5 : 0 < ln
          · have g5 : (0 : Int) < (ln : Int) := by omega
            have e : R = 29 := by rw [← HR.out, b2_yes h1, b2_no h2, b2_yes h3, b2_yes h4, b2_yes h5]
            subst e
            go_enter Tryd.func32, Tryd.ntmps32
            go_wp2_with fail
            go_ret
            exact ⟨by first | rfl | decide | (congr 2), (Kept.refl _ _).alloc _⟩
          · have g5 : ¬ (0 : Int) < (ln : Int) := by omega
            have e : R = 13 := by rw [← HR.out, b2_yes h1, b2_no h2, b2_yes h3, b2_yes h4, b2_no h5]
            subst e
            go_enter Tryd.func32, Tryd.ntmps32
            go_wp2_with fail
            go_ret
            exact ⟨by first | rfl | decide | (congr 2), (Kept.refl _ _).alloc _⟩
        · have g4 : ¬ (0 : Int) < (vn : Int) := by omega
          by_cases h5 : 0 < ln
          · have g5 : (0 : Int) < (ln : Int) := by omega
            have e : R = 21 := by rw [← HR.out, b2_yes h1, b2_no h2, b2_yes h3, b2_no h4, b2_yes h5]
            subst e
            go_enter Tryd.func32, Tryd.ntmps32
            go_wp2_with fail
            go_ret
            exact ⟨by first | rfl | decide | (congr 2), (Kept.refl _ _).alloc _⟩
          · have g5 : ¬ (0 : Int) < (ln : Int) := by omega
            have e : R = 5 := by rw [← HR.out, b2_yes h1, b2_no h2, b2_yes h3, b2_no h4, b2_no h5]
            subst e
            go_enter Tryd.func32, Tryd.ntmps32
            go_wp2_with fail
            go_ret
            exact ⟨by first | rfl | decide | (congr 2), (Kept.refl _ _).alloc _⟩
      · have g3 : ¬ (0 : Int) < (key.size : Int) := by omega
        have g3n : key.size = 0 := by omega
        by_cases h4 : 0 < vn
        · have g4 : (0 : Int) < (vn : Int) := by omega
          by_cases h5 : 0 < ln
          · have g5 : (0 : Int) < (ln : Int) := by omega
            have e : R = 25 := by rw [← HR.out, b2_yes h1, b2_no h2, b2_no h3, b2_yes h4, b2_yes h5]
            subst e
            go_enter Tryd.func32, Tryd.ntmps32
            go_wp2_with fail
            go_ret
            exact ⟨by first | rfl | decide | (congr 2), (Kept.refl _ _).alloc _⟩
          · have g5 : ¬ (0 : Int) < (ln : Int) := by omega
            have e : R = 9 := by rw [← HR.out, b2_yes h1, b2_no h2, b2_no h3, b2_yes h4, b2_no h5]
            subst e
            go_enter Tryd.func32, Tryd.ntmps32
            go_wp2_with fail
            go_ret
            exact ⟨by first | rfl | decide | (congr 2), (Kept.refl _ _).alloc _⟩
        · have g4 : ¬ (0 : Int) < (vn : Int) := by omega
          by_cases h5 : 0 < ln
          · have g5 : (0 : Int) < (ln : Int) := by omega
            have e : R = 17 := by rw [← HR.out, b2_yes h1, b2_no h2, b2_no h3, b2_no h4, b2_yes h5]
            subst e
            go_enter Tryd.func32, Tryd.ntmps32
            go_wp2_with fail
            go_ret
            exact ⟨by first | rfl | decide | (congr 2), (Kept.refl _ _).alloc _⟩
          · have g5 : ¬ (0 : Int) < (ln : Int) := by omega
            have e : R = 1 := by rw [← HR.out, b2_yes h1, b2_no h2, b2_no h3, b2_no h4, b2_no h5]
            subst e
            go_enter Tryd.func32, Tryd.ntmps32
            go_wp2_with fail
            go_ret
            exact ⟨by first | rfl | decide | (congr 2), (Kept.refl _ _).alloc _⟩
  · have g1 : a = 0 := Decidable.of_not_not h1
    have g1b : (a != 0) = false := by rw [g1]; rfl
    by_cases h2 : b ≠ 0
    · have g2 : ¬ b = 0 := h2
      by_cases h3 : 0 < key.size
      · have g3 : (0 : Int) < (key.size : Int) := by omega
        have g3n : ¬ key.size = 0 := by omega
        by_cases h4 : 0 < vn
        · have g4 : (0 : Int) < (vn : Int) := by omega
          by_cases h5 : 0 < ln
          · have g5 : (0 : Int) < (ln : Int) := by omega
            have e : R = 30 := by rw [← HR.out, b2_no h1, b2_yes h2, b2_yes h3, b2_yes h4, b2_yes h5]
            subst e
            go_enter Tryd.func32, Tryd.ntmps32
            go_wp2_with fail
            go_ret
            exact ⟨by first | rfl | decide | (congr 2), (Kept.refl _ _).alloc _⟩
          · have g5 : ¬ (0 : Int) < (ln : Int) := by omega
            have e : R = 14 := by rw [← HR.out, b2_no h1, b2_yes h2, b2_yes h3, b2_yes h4, b2_no h5]
            subst e
            go_enter Tryd.func32, Tryd.ntmps32
            go_wp2_with fail
            go_ret
            exact ⟨by first | rfl | decide | (congr 2), (Kept.refl _ _).alloc _⟩
        · have g4 : ¬ (0 : Int) < (vn : Int) := by omega
          by_cases h5 : 0 < ln
          · have g5 : (0 : Int) < (ln : Int) := by omega
            have e : R = 22 := by rw [← HR.out, b2_no h1, b2_yes h2, b2_yes h3, b2_no h4, b2_yes h5]
            subst e
            go_enter Tryd.func32, Tryd.ntmps32
            go_wp2_with fail
            go_ret
            exact ⟨by first | rfl | decide | (congr 2), (Kept.refl _ _).alloc _⟩
          · have g5 : ¬ (0 : Int) < (ln : Int) := by omega
            have e : R = 6 := by rw [← HR.out, b2_no h1, b2_yes h2, b2_yes h3, b2_no h4, b2_no h5]
            subst e
            go_enter Tryd.func32, Tryd.ntmps32
            go_wp2_with fail
            go_ret
            exact ⟨by first | rfl | decide | (congr 2), (Kept.refl _ _).alloc _⟩
      · have g3 : ¬ (0 : Int) < (key.size : Int) := by omega
        have g3n : key.size = 0 := by omega
        by_cases h4 : 0 < vn
        · have g4 : (0 : Int) < (vn : Int) := by omega
          by_cases h5 : 0 < ln
          · have g5 : (0 : Int) < (ln : Int) := by omega
            have e : R = 26 := by rw [← HR.out, b2_no h1, b2_yes h2, b2_no h3, b2_yes h4, b2_yes h5]
            subst e
            go_enter Tryd.func32, Tryd.ntmps32
            go_wp2_with fail
            go_ret
            exact ⟨by first | rfl | decide | (congr 2), (Kept.refl _ _).alloc _⟩
          · have g5 : ¬ (0 : Int) < (ln : Int) := by omega
            have e : R = 10 := by rw [← HR.out, b2_no h1, b2_yes h2, b2_no h3, b2_yes h4, b2_no h5]
            subst e
            go_enter Tryd.func32, Tryd.ntmps32
            go_wp2_with fail
            go_ret
            exact ⟨by first | rfl | decide | (congr 2), (Kept.refl _ _).alloc _⟩
        · have g4 : ¬ (0 : Int) < (vn : Int) := by omega
          by_cases h5 : 0 < ln
          · have g5 : (0 : Int) < (ln : Int) := by omega
            have e : R = 18 := by rw [← HR.out, b2_no h1, b2_yes h2, b2_no h3, b2_no h4, b2_yes h5]
            subst e
            go_enter Tryd.func32, Tryd.ntmps32
            go_wp2_with fail
            go_ret
            exact ⟨by first | rfl | decide | (congr 2), (Kept.refl _ _).alloc _⟩
          · have g5 : ¬ (0 : Int) < (ln : Int) := by omega
            have e : R = 2 := by rw [← HR.out, b2_no h1, b2_yes h2, b2_no h3, b2_no h4, b2_no h5]
            subst e
            go_enter Tryd.func32, Tryd.ntmps32
            go_wp2_with fail
            go_ret
            exact ⟨by first | rfl | decide | (congr 2), (Kept.refl _ _).alloc _⟩
    · have g2 : b = 0 := Decidable.of_not_not h2
      have g2b : (b != 0) = false := by rw [g2]; rfl
      by_cases h3 : 0 < key.size
      · have g3 : (0 : Int) < (key.size : Int) := by omega
        have g3n : ¬ key.size = 0 := by omega
        by_cases h4 : 0 < vn
        · have g4 : (0 : Int) < (vn : Int) := by omega
          by_cases h5 : 0 < ln
          · have g5 : (0 : Int) < (ln : Int) := by omega
            have e : R = 28 := by rw [← HR.out, b2_no h1, b2_no h2, b2_yes h3, b2_yes h4, b2_yes h5]
            subst e
            go_enter Tryd.func32, Tryd.ntmps32
            go_wp2_with fail
            go_ret
            exact ⟨by first | rfl | decide | (congr 2), (Kept.refl _ _).alloc _⟩
          · have g5 : ¬ (0 : Int) < (ln : Int) := by omega
            have e : R = 12 := by rw [← HR.out, b2_no h1, b2_no h2, b2_yes h3, b2_yes h4, b2_no h5]
            subst e
            go_enter Tryd.func32, Tryd.ntmps32
            go_wp2_with fail
            go_ret
            exact ⟨by first | rfl | decide | (congr 2), (Kept.refl _ _).alloc _⟩
        · have g4 : ¬ (0 : Int) < (vn : Int) := by omega
          by_cases h5 : 0 < ln
          · have g5 : (0 : Int) < (ln : Int) := by omega
            have e : R = 20 := by rw [← HR.out, b2_no h1, b2_no h2, b2_yes h3, b2_no h4, b2_yes h5]
            subst e
            go_enter Tryd.func32, Tryd.ntmps32
            go_wp2_with fail
            go_ret
            exact ⟨by first | rfl | decide | (congr 2), (Kept.refl _ _).alloc _⟩
          · have g5 : ¬ (0 : Int) < (ln : Int) := by omega
            have e : R = 4 := by rw [← HR.out, b2_no h1, b2_no h2, b2_yes h3, b2_no h4, b2_no h5]
            subst e
            go_enter Tryd.func32, Tryd.ntmps32
            go_wp2_with fail
            go_ret
            exact ⟨by first | rfl | decide | (congr 2), (Kept.refl _ _).alloc _⟩
      · have g3 : ¬ (0 : Int) < (key.size : Int) := by omega
        have g3n : key.size = 0 := by omega
        by_cases h4 : 0 < vn
        · have g4 : (0 : Int) < (vn : Int) := by omega
          by_cases h5 : 0 < ln
          · have g5 : (0 : Int) < (ln : Int) := by omega
            have e : R = 24 := by rw [← HR.out, b2_no h1, b2_no h2, b2_no h3, b2_yes h4, b2_yes h5]
            subst e
            go_enter Tryd.func32, Tryd.ntmps32
            go_wp2_with fail
            go_ret
            exact ⟨by first | rfl | decide | (congr 2), (Kept.refl _ _).alloc _⟩
          · have g5 : ¬ (0 : Int) < (ln : Int) := by omega
            have e : R = 8 := by rw [← HR.out, b2_no h1, b2_no h2, b2_no h3, b2_yes h4, b2_no h5]
            subst e
            go_enter Tryd.func32, Tryd.ntmps32
            go_wp2_with fail
            go_ret
            exact ⟨by first | rfl | decide | (congr 2), (Kept.refl _ _).alloc _⟩
        · have g4 : ¬ (0 : Int) < (vn : Int) := by omega
          by_cases h5 : 0 < ln
          · have g5 : (0 : Int) < (ln : Int) := by omega
            have e : R = 16 := by rw [← HR.out, b2_no h1, b2_no h2, b2_no h3, b2_no h4, b2_yes h5]
            subst e
            go_enter Tryd.func32, Tryd.ntmps32
            go_wp2_with fail
            go_ret
            exact ⟨by first | rfl | decide | (congr 2), (Kept.refl _ _).alloc _⟩
          · have g5 : ¬ (0 : Int) < (ln : Int) := by omega
            have e : R = 0 := by rw [← HR.out, b2_no h1, b2_no h2, b2_no h3, b2_no h4, b2_no h5]
            subst e
            go_enter Tryd.func32, Tryd.ntmps32
            go_wp2_with fail
            go_ret
            exact ⟨by first | rfl | decide | (congr 2), (Kept.refl _ _).alloc _⟩
end Go.Proofs.YtonfefhegghapaaDoor
