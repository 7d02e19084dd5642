import Derived.Test.YtojepeefphbekaaGreatRefFromJ
import Derived.Test.YtojepeefphbekaaGreatRow
import Derived.Deep.RegionLaw
namespace Go.Proofs.YtojepeefphbekaaGreat
open Go.RowKit

/-- A set: its block, and its list. -/
structure IsSet (ty : Nat) (w : World) (C : Nat) (q : Option Addr) (len cap : Nat) (R : List (Int × Int)) : Prop where
  blk : w.heap[C]? = some (.cells #[.slice q len cap] ty (0, 0))
  row : Row w q len cap R
  ne : ty ≠ 37
theorem IsSet.sv {ty : Nat} {w : World} {C : Nat} {q : Option Addr} {len cap : Nat} {R : List (Int × Int)} (h : IsSet ty w C q len cap R) : SV w C ty q len cap R := ⟨h.blk, h.row.reads⟩
theorem IsSet.by {ty : Nat} {w w' : World} {C : Nat} {q : Option Addr} {len cap : Nat} {R : List (Int × Int)} (h : IsSet ty w C q len cap R) (B : Below w.heap.size w w') : IsSet ty w' C q len cap R := ⟨(B.block C h.sv.lt).trans h.blk, h.row.by B, h.ne⟩
theorem IsSet.apart {ty : Nat} {w : World} {C : Nat} {q : Option Addr} {len cap : Nat} {R : List (Int × Int)} (h : IsSet ty w C q len cap R) : blockOf q ≠ some C := by
  rcases h.row.pos with ⟨rfl, _⟩ | ⟨g, off, cur, rfl, hg, _⟩
  · simp [blockOf]
  · intro e
    simp [blockOf] at e
    subst e
    rw [h.blk] at hg
    simp at hg
    exact h.ne hg.2
theorem IsSet.rowlt {ty : Nat} {w : World} {C : Nat} {q : Option Addr} {len cap : Nat} {R : List (Int × Int)} (h : IsSet ty w C q len cap R) : ∀ k, blockOf q = some k → k < w.heap.size := by
  intro k hk
  rcases h.row.pos with ⟨rfl, _⟩ | ⟨g, off, cur, rfl, hg, _⟩
  · simp [blockOf] at hk
  · simp [blockOf] at hk
    subst hk
    exact (Array.getElem?_eq_some_iff.1 hg).1
/-- Another list is laid into the set's block. -/
theorem IsSet.laid {ty : Nat} {w : World} {C : Nat} {q q' : Option Addr} {len cap len' cap' : Nat} {R' : List (Int × Int)} (hb : w.heap[C]? = some (.cells #[.slice q len cap] ty (0, 0))) (hn : ty ≠ 37) (r : Row w q' len' cap' R') : IsSet ty (w.setCell ⟨C, 0, none⟩ (.slice q' len' cap')) C q' len' cap' R' := by
  refine ⟨heap_set hb 0 _, ?_, hn⟩
  refine ⟨r.length, r.room, r.small, r.fit, ?_⟩
  rcases r.pos with e | ⟨g, off, cur, rfl, hg, hs, ht⟩
  · exact .inl e
  · refine .inr ⟨g, off, cur, rfl, ?_, hs, ht⟩
    rw [Below.heap_setCell w ⟨C, 0, none⟩ _ g (fun e => ?_)]
    · exact hg
    · have e : g = C := e
      subst e
      rw [hb] at hg
      simp at hg
      exact hn hg.2
/-- What changed: the set's own block and its own list's. -/
structure Moved (w w' : World) (C : Nat) (q q' : Option Addr) : Prop where
  kept : Kept (fun k => k = C ∨ blockOf q = some k) w w'
  near : ∀ k, blockOf q' = some k → blockOf q = some k ∨ w.heap.size ≤ k
theorem Moved.of_below {w w' : World} (B : Below w.heap.size w w') (C : Nat) (q : Option Addr) : Moved w w' C q q :=
  ⟨⟨B.os, B.tape, B.output, B.size, fun k hk _ => B.block k hk⟩, fun _ h => .inl h⟩
theorem Moved.appended {w w2 w3 w5 : World} {C : Nat} {q q5 : Option Addr} {v : Value} (B2 : Below w.heap.size w w2) (B3 : Below w2.heap.size w2 w3) (hg : w3.grownBy w5 (blockOf q)) (hn : q5 = q ∨ q5 = some ⟨w3.heap.size, 0, none⟩) : Moved w (w5.setCell ⟨C, 0, none⟩ v) C q q5 := by
  have B : Below w.heap.size w w3 := B2.trans (B3.mono B2.size)
  refine ⟨⟨hg.os.trans B.os, hg.tape.trans B.tape, hg.output.trans B.output, Nat.le_trans B.size (Nat.le_trans hg.size (by simp [World.setCell])), fun k hk hne => ?_⟩, fun k hk => ?_⟩
  · rw [Below.heap_setCell w5 ⟨C, 0, none⟩ v k (fun e => hne (.inl e))]
    exact (hg.block k (Nat.lt_of_lt_of_le hk B.size) (fun e => hne (.inr e.symm))).trans (B.block k hk)
  · rcases hn with rfl | rfl
    · exact .inl hk
    · simp [blockOf] at hk
      subst hk
      exact .inr B.size
/-- What Add makes of a list in no order. -/
def AddIs (R : List (Int × Int)) (x y : Int) (b : Bool) (e : Int) (R' : List (Int × Int)) : Prop :=
  (isProper x y = false ∧ b = false ∧ e = 41 ∧ R' = R) ∨ (isProper x y = true ∧ (x, y) ∈ R ∧ b = false ∧ e = 0 ∧ R' = R) ∨ (isProper x y = true ∧ (x, y) ∉ R ∧ b = true ∧ e = 0 ∧ R' = R ++ [(x, y)])
end Go.Proofs.YtojepeefphbekaaGreat
