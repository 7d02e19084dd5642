import Derived.Test.YtankiipkkbihiaaZero
import Derived.Test.YtankiipkkbihiaaMath
import Derived.WalkKit
import Derived.WalkSpells
import Derived.WalkLawsBesides
import Derived.Deep.QuietTactic
import Derived.BigQuiet
namespace Go.Proofs.Ytankiipkkbihiaa
open Go.RowKit

theorem i64_xor_nat (a b : Nat) (ha : a < 512) (hb : b < 512) : bits .xor .i64 (a : Int) (b : Int) = ((a ^^^ b : Nat) : Int) := by
  have hx : a ^^^ b < 2 ^ 9 := Nat.xor_lt_two_pow (by omega) (by omega)
  have o : ∀ c : Nat, c < 512 → (BitVec.ofInt 64 (c : Int)).toNat = c := fun c hc => by
    rw [BitVec.toNat_ofInt]; simp; omega
  show IntKind.i64.wrap ((BitVec.ofInt 64 (a : Int) ^^^ BitVec.ofInt 64 (b : Int)).toNat : Int) = _
  rw [BitVec.toNat_xor, o a ha, o b hb, IntKind.wrap_i64]
  omega

/-- The field of P lies in block b. -/
structure IsF (P b : Nat) (w : World) : Prop where
  poly : w.cell? ⟨b, 0, none⟩ = some (.int .i64 (P : Int))
  exp : ∀ i, i < 510 → w.cell? ⟨b, 1 + i, none⟩ = some (.int .u8 ((Gf.pw P i : Nat) : Int))
  log : ∀ i, i < 255 → w.cell? ⟨b, 511 + Gf.pw P i, none⟩ = some (.int .u8 (i : Int))

/-- The world is as it was, but for draws. -/
def Qt (w w' : World) : Prop := ∃ n, w' = w.drewN n
theorem Qt.refl (w : World) : Qt w w := ⟨0, rfl⟩
theorem Qt.trans {a b c : World} (h : Qt a b) (k : Qt b c) : Qt a c := by
  obtain ⟨n, rfl⟩ := h; obtain ⟨m, rfl⟩ := k; exact ⟨n + m, by simp⟩
theorem Qt.drew (w : World) : Qt w w.drew := ⟨1, rfl⟩
theorem Qt.drewN (w : World) (n : Nat) : Qt w (w.drewN n) := ⟨n, rfl⟩
theorem Qt.cell {w w' : World} (h : Qt w w') (a : Addr) : w'.cell? a = w.cell? a := by obtain ⟨n, rfl⟩ := h; rfl
theorem Qt.isF {P b : Nat} {w w' : World} (h : Qt w w') (f : IsF P b w) : IsF P b w' := by
  obtain ⟨n, rfl⟩ := h; exact ⟨f.poly, f.exp, f.log⟩
theorem Qt.below {B : Nat} {w w' : World} (h : Qt w w') : Below B w w' := by
  obtain ⟨n, rfl⟩ := h; exact ⟨rfl, rfl, rfl, Nat.le_refl _, fun _ _ => rfl⟩
theorem IsF.lg {P b : Nat} {w : World} (f : IsF P b w) (g : Gf.Good P) (a : Nat) (h0 : a ≠ 0) (h1 : a < 256) : w.cell? ⟨b, 511 + a, none⟩ = some (.int .u8 ((Gf.lg P a : Nat) : Int)) := by
  have := f.log (Gf.lg P a) (g.lg_lt a h0 h1)
  rwa [g.pw_lg a h0 h1] at this
end Go.Proofs.Ytankiipkkbihiaa
