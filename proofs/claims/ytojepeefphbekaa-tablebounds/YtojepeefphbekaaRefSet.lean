import Derived.Test.YtojepeefphbekaaBase
import Derived.Test.YtojepeefphbekaaSetMath
import Derived.Deep.DeepCutAuto
namespace Go.Proofs.Ytojepeefphbekaa
open Go.RowKit

theorem below_dN {N : Nat} {a b : World} (h : Below N a b) (n : Nat) : Below N a (b.drewN n) := ⟨h.os, h.tape, h.output, h.size, h.block⟩
/-- A set that can be read: its block, and what its list reads as. -/
structure SV (w : World) (C ty : Nat) (a : Option Addr) (len cap : Nat) (R : List (Int × Int)) : Prop where
  blk : w.heap[C]? = some (.cells #[.slice a len cap] ty (0, 0))
  r : TReads w a len cap R
theorem SV.lt {w : World} {C ty : Nat} {a : Option Addr} {len cap : Nat} {R : List (Int × Int)} (h : SV w C ty a len cap R) : C < w.heap.size := (Array.getElem?_eq_some_iff.1 h.blk).1
theorem SV.by {w w' : World} {C ty : Nat} {a : Option Addr} {len cap : Nat} {R : List (Int × Int)} (h : SV w C ty a len cap R) (B : Below w.heap.size w w') : SV w' C ty a len cap R := ⟨(B.block C h.lt).trans h.blk, h.r.by B⟩
theorem SV.cell {w : World} {C ty : Nat} {a : Option Addr} {len cap : Nat} {R : List (Int × Int)} (h : SV w C ty a len cap R) : w.cell? ⟨C, 0, none⟩ = some (.slice a len cap) := by
  rw [cell_of_row w C 0 _ ty (0, 0) h.blk]; rfl
theorem SV.nums {w : World} {C ty : Nat} {a : Option Addr} {len cap : Nat} {R : List (Int × Int)} (h : SV w C ty a len cap R) : R.length = len ∧ len ≤ cap ∧ cap ≤ 9223372036854775807 := ⟨h.r.length, h.r.room, by have := h.r.small; unfold maxLen at this; omega⟩
theorem ahead_take (R : List (Int × Int)) (t : Int × Int) (i : Nat) (h : i < R.length) : ahead (R.take (i + 1)) t = ahead (R.take i) t + (if tc (R.getD i (0, 0)) t < 0 then 1 else 0) := by
  rw [List.take_succ_eq_append_getElem h, getD_at R i h]
  unfold ahead
  rw [List.countP_append]
  simp [List.countP_cons]
theorem mem_take (R : List (Int × Int)) (t : Int × Int) (i : Nat) (h : i < R.length) (hn : t ∉ R.take i) (hx : R.getD i (0, 0) ≠ t) : t ∉ R.take (i + 1) := by
  rw [List.take_succ_eq_append_getElem h]
  intro m
  rcases List.mem_append.1 m with q | q
  · exact hn q
  · rw [List.mem_singleton] at q
    apply hx
    rw [getD_at R i h, q]
end Go.Proofs.Ytojepeefphbekaa
