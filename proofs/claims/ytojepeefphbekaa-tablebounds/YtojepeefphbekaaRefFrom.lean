import Derived.Test.YtojepeefphbekaaRefSet
namespace Go.Proofs.Ytojepeefphbekaa
open Go.RowKit

/-- What the inner loop has found. -/
def found (R : List (Int × Int)) (n j : Nat) : List (Int × Int) := (R.take j).filter fun x => decide (ahead R x = n)
theorem found_next (R : List (Int × Int)) (n j : Nat) (h : j < R.length) : found R n (j + 1) = found R n j ++ (if ahead R (R.getD j (0, 0)) = n then [R.getD j (0, 0)] else []) := by
  unfold found
  rw [List.take_succ_eq_append_getElem h, List.filter_append, getD_at R j h]
  congr 1
  by_cases q : ahead R R[j] = n
  · rw [if_pos q, List.filter_cons_of_pos (by simpa using q)]; rfl
  · rw [if_neg q, List.filter_cons_of_neg (by simpa using q)]; rfl
theorem found_all (R S : List (Int × Int)) (h : Rising S) (hp : R.Perm S) (n : Nat) (hn : n < S.length) : found R n R.length = [S[n]] := by
  unfold found
  rw [List.take_of_length_le (Nat.le_refl _)]
  exact nth_of R S h hp n hn
theorem found_le (R S : List (Int × Int)) (h : Rising S) (hp : R.Perm S) (n j : Nat) (hn : n < S.length) : (found R n j).length ≤ 1 := by
  have e := found_all R S h hp n hn
  have : (found R n j).length ≤ (found R n R.length).length := by
    unfold found
    apply List.Sublist.length_le
    apply List.Sublist.filter
    rw [List.take_of_length_le (Nat.le_refl _)]
    exact List.take_sublist _ _
  rw [e] at this
  simpa using this
theorem part_next (S : List (Int × Int)) (p n : Nat) (hp : p ≤ n) (hn : n < S.length) : (S.drop p).take (n - p) ++ [S[n]] = (S.drop p).take (n + 1 - p) := by
  have e : n + 1 - p = (n - p) + 1 := by omega
  rw [e, List.take_succ_eq_append_getElem (by rw [List.length_drop]; omega)]
  congr 2
  rw [List.getElem_drop]
  congr 1
  omega
theorem Below.grew0 {w wr w' : World} {v : Value} {n : Nat} {xs : List Value} (B : Below w.heap.size w wr) (o : wr.ownsRow w.heap.size 29 2 v n xs) (g : wr.grownBy w' v.ownBlock) : Below w.heap.size w w' := Below.grew B o g
end Go.Proofs.Ytojepeefphbekaa
