import Derived.Test.YtojepeefphbekaaCalls
import Derived.Deep.DeepCutAuto
namespace Go.Proofs.Ytojepeefphbekaa
open Go.RowKit

/-- The slice reads as these tags. -/
structure TReads (w : World) (a : Option Addr) (len cap : Nat) (l : List (Int × Int)) : Prop where
  length : l.length = len
  room : len ≤ cap
  small : cap ≤ maxLen
  fit : ∀ t ∈ l, (-9223372036854775808 ≤ t.1 ∧ t.1 < 9223372036854775808) ∧ (-9223372036854775808 ≤ t.2 ∧ t.2 < 9223372036854775808)
  cells : 0 < len → ∃ b off, a = some ⟨b, off, none⟩ ∧ ∀ i, i < len → w.cell? ⟨b, off + i * 2, none⟩ = some (.int .i64 (l.getD i (0, 0)).1) ∧ w.cell? ⟨b, off + i * 2 + 1, none⟩ = some (.int .i64 (l.getD i (0, 0)).2)
/-- The greatest. -/
def maxFrom (m : Int × Int) : List (Int × Int) → Int × Int
  | [] => m
  | t :: r => maxFrom (if 0 < tcmp t.1 t.2 m.1 m.2 then t else m) r
def maxT : List (Int × Int) → Int × Int
  | [] => (0, 0)
  | t :: r => maxFrom t r
theorem maxFrom_snoc (r : List (Int × Int)) : ∀ (m x : Int × Int), maxFrom m (r ++ [x]) = if 0 < tcmp x.1 x.2 (maxFrom m r).1 (maxFrom m r).2 then x else maxFrom m r := by
  induction r with
  | nil => intro m x; rfl
  | cons t r ih => intro m x; exact ih _ x
theorem maxT_take (l : List (Int × Int)) (i : Nat) (h1 : 1 ≤ i) (hi : i < l.length) : maxT (l.take (i + 1)) = if 0 < tcmp (l.getD i (0, 0)).1 (l.getD i (0, 0)).2 (maxT (l.take i)).1 (maxT (l.take i)).2 then l.getD i (0, 0) else maxT (l.take i) := by
  rw [List.take_succ_eq_append_getElem hi]
  have e : l.getD i (0, 0) = l[i] := by rw [List.getD_eq_getElem?_getD, List.getElem?_eq_getElem hi]; rfl
  rw [e]
  cases l with
  | nil => simp at hi
  | cons t r =>
    obtain ⟨j, rfl⟩ : ∃ j, i = j + 1 := ⟨i - 1, by omega⟩
    rw [List.take_succ_cons, List.cons_append]
    exact maxFrom_snoc _ _ _
end Go.Proofs.Ytojepeefphbekaa
