import Derived.Test.YtojepeefphbekaaGreatRefAdd
namespace Go.Proofs.YtojepeefphbekaaGreat
open Go.RowKit

theorem fit_perm {R S : List (Int × Int)} (h : Fit R) (p : R.Perm S) : Fit S := fun t ht => h t (p.symm.subset ht)
theorem fit_drop {S : List (Int × Int)} (h : Fit S) (k : Nat) : Fit (S.drop k) := fun t ht => h t (List.mem_of_mem_drop ht)
/-- All that is the set's lies from N on. -/
def From (N : Nat) (q : Option Addr) : Prop := ∀ k, blockOf q = some k → N ≤ k
theorem Moved.below {N : Nat} {w0 w w' : World} {C : Nat} {q q' : Option Addr} (B : Below N w0 w) (h : Moved w w' C q q') (hN : N ≤ w.heap.size) (hC : N ≤ C) (hq : From N q) : Below N w0 w' ∧ From N q' := by
  refine ⟨⟨h.kept.os.trans B.os, h.kept.tape.trans B.tape, h.kept.output.trans B.output, Nat.le_trans B.size h.kept.size, fun k hk => ?_⟩, fun k hk => ?_⟩
  · refine (h.kept.block k (by omega) (fun e => ?_)).trans (B.block k hk)
    rcases e with rfl | e
    · omega
    · have := hq k e; omega
  · rcases h.near k hk with e | e
    · exact hq k e
    · omega
/-- The document's list of some tags. -/
def addR (R : List (Int × Int)) (t : Int × Int) : List (Int × Int) := if t ∈ R then R else R ++ [t]
def newR (l : List (Int × Int)) : List (Int × Int) := l.foldl addR []
theorem newR_take (l : List (Int × Int)) (i : Nat) (h : i < l.length) : newR (l.take (i + 1)) = addR (newR (l.take i)) (l.getD i (0, 0)) := by
  rw [List.take_succ_eq_append_getElem h, getD_at l i h]
  unfold newR
  rw [List.foldl_append]
  rfl
theorem addR_length (R : List (Int × Int)) (t : Int × Int) : (addR R t).length ≤ R.length + 1 := by
  unfold addR
  split <;> simp
theorem newR_length (l : List (Int × Int)) (i : Nat) : (newR (l.take i)).length ≤ i := by
  induction i with
  | zero => simp [newR]
  | succ i ih =>
    by_cases h : i < l.length
    · rw [newR_take l i h]
      have := addR_length (newR (l.take i)) (l.getD i (0, 0))
      omega
    · rw [List.take_of_length_le (by omega)]
      rw [List.take_of_length_le (by omega)] at ih
      omega
/-- What the document's NewSet answers. -/
def NewR (w : World) (l : List (Int × Int)) (o : Ending) (w' : World) : Prop := ((∀ t ∈ l, isProper t.1 t.2 = true) ∧ ∃ q m c, o = .returned (.tuple #[.pointer (some ⟨w.heap.size, 0, none⟩), .int .i64 0]) ∧ IsSet 65 w' w.heap.size q m c (newR l) ∧ From w.heap.size q ∧ Below w.heap.size w w') ∨ ((∃ t ∈ l, isProper t.1 t.2 = false) ∧ o = .returned (.tuple #[.pointer none, .int .i64 41]) ∧ Below w.heap.size w w')
end Go.Proofs.YtojepeefphbekaaGreat
