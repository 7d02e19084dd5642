import Derived.Test.YtbnnmelkbjkkjaaFar
namespace Go.Proofs.Ytbnnmelkbjkkjaa
open Go.RowKit

/-- Two disks side by side. -/
structure TD (w wr : World) (B1 : Nat) (A1 : AB) (B2 : Nat) (A2 : AB) : Prop where
  ex : ∃ d1 d2, IsD w.heap.size wr B1 d1 ∧ d1.ab = A1 ∧ IsD w.heap.size wr B2 d2 ∧ d2.ab = A2 ∧ ∀ k, d1.Uses B1 k → ¬ d2.Uses B2 k
  kept : Kept (fun _ => False) w wr
theorem TD.swap {w wr : World} {B1 : Nat} {A1 : AB} {B2 : Nat} {A2 : AB} (h : TD w wr B1 A1 B2 A2) : TD w wr B2 A2 B1 A1 := by
  obtain ⟨d1, d2, i1, e1, i2, e2, a⟩ := h.ex
  exact ⟨⟨d2, d1, i2, e2, i1, e1, fun k h2 h1 => a k h1 h2⟩, h.kept⟩
theorem TD.left {w wr : World} {B1 : Nat} {A1 : AB} {B2 : Nat} {A2 : AB} (h : TD w wr B1 A1 B2 A2) : HD w wr B1 A1 := by
  obtain ⟨d1, d2, i1, e1, _⟩ := h.ex
  exact ⟨⟨d1, i1, e1⟩, h.kept, i1.low⟩
theorem TD.quiet {w wr w' : World} {B1 : Nat} {A1 : AB} {B2 : Nat} {A2 : AB} (h : TD w wr B1 A1 B2 A2) (K : Kept (fun _ => False) wr w') : TD w w' B1 A1 B2 A2 := by
  obtain ⟨d1, d2, i1, e1, i2, e2, a⟩ := h.ex
  exact ⟨⟨d1, d2, i1.kept0 K, e1, i2.kept0 K, e2, a⟩, h.kept.trans K (fun _ _ z => z)⟩
/-- The first of them moved. -/
theorem TD.step {w wr w' : World} {B1 B2 : Nat} {d1 d1' d2 : DK} (i1 : IsD w.heap.size wr B1 d1) (i2 : IsD w.heap.size wr B2 d2) (a : ∀ k, d1.Uses B1 k → ¬ d2.Uses B2 k) (K : Kept (fun _ => False) w wr) (i1' : IsD w.heap.size w' B1 d1') (m : DM wr w' B1 d1 d1') : TD w w' B1 d1'.ab B2 d2.ab := by
  refine ⟨⟨d1', d2, i1', rfl, i2.off m.kept (fun k hk z => a k z.uses hk), rfl, fun k hk z => ?_⟩, m.kept0 i1 (Nat.le_refl _) K⟩
  rcases m.near k hk with q | q
  · exact a k q z
  · have := i2.lt z; omega
/-- A new disk beside one. -/
theorem TD.beside {w wr w' : World} {B1 F : Nat} {d1 df : DK} (i1 : IsD w.heap.size w' B1 d1) (h1 : ∀ k, d1.Uses B1 k → k < wr.heap.size) (i2 : IsD w.heap.size w' F df) (h2 : ∀ k, df.Uses F k → wr.heap.size ≤ k) (K : Kept (fun _ => False) w w') : TD w w' B1 d1.ab F df.ab :=
  ⟨⟨d1, df, i1, rfl, i2, rfl, fun k q1 q2 => by have := h1 k q1; have := h2 k q2; omega⟩, K⟩
/-- What one of the four acts answers, and what it makes of a living disk that no Stop has named. -/
def AB.doit (A : AB) (kind slot : Int) (l : List Nat) : AB × Int :=
  if A.dead = true then (A, 60)
  else if slot = 0 ∨ slot = 1 then
    (if kind = 1 then ((A.tick.add slot.toNat l).counted, 0)
     else if kind = 2 then (if slot = (A.cur : Int) then (A, 61) else ((A.tick.more slot.toNat none).counted, 0))
     else if kind = 3 then ((A.tick.sync slot.toNat).counted, 0)
     else ((A.tick.switch slot.toNat).counted, 0))
  else (A, 61)
end Go.Proofs.Ytbnnmelkbjkkjaa
