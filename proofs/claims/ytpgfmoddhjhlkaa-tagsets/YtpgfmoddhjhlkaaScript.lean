import Derived.Test.YtpgfmoddhjhlkaaNilSet
namespace Go.Proofs.Ytpgfmoddhjhlkaa
open Go.RowKit

/-- The script reads as these calls. -/
structure OReads (w : World) (a : Option Addr) (len cap : Nat) (l : List (Int × (Int × Int) × Int)) : Prop where
  length : l.length = len
  room : len ≤ cap
  small : cap ≤ maxLen
  fit : ∀ o ∈ l, Fit [o.2.1] ∧ (-9223372036854775808 ≤ o.2.2 ∧ o.2.2 < 9223372036854775808)
  cells : 0 < len → ∃ b off, a = some ⟨b, off, none⟩ ∧ ∀ i (h : i < l.length), w.cell? ⟨b, off + i * 4, none⟩ = some (.int .i64 l[i].1) ∧ w.cell? ⟨b, off + i * 4 + 1, none⟩ = some (.int .i64 l[i].2.1.1) ∧ w.cell? ⟨b, off + i * 4 + 2, none⟩ = some (.int .i64 l[i].2.1.2) ∧ w.cell? ⟨b, off + i * 4 + 3, none⟩ = some (.int .i64 l[i].2.2)
theorem OReads.by {w w' : World} {a : Option Addr} {len cap : Nat} {l : List (Int × (Int × Int) × Int)} (r : OReads w a len cap l) (B : Below w.heap.size w w') : OReads w' a len cap l := ⟨r.length, r.room, r.small, r.fit, fun h => by
  obtain ⟨b, off, e, hc⟩ := r.cells h
  refine ⟨b, off, e, fun i hi => ?_⟩
  obtain ⟨q0, q1, q2, q3⟩ := hc i hi
  have lb : b < w.heap.size := World.block_lt_of_cell? w _ q0
  exact ⟨(B.cell lb).trans q0, (B.cell lb).trans q1, (B.cell lb).trans q2, (B.cell lb).trans q3⟩⟩
theorem Two.keptG {N : Nat} {w0 w w' : World} {B C : Nat} {q r : Option Addr} {len c1 m c2 : Nat} {S R : List (Int × Int)} (h : Two N w0 w B C q r len c1 m c2 S R) {g : Nat} (k : Kept (fun j => j = g) w w') (hN : N ≤ g) (hB : g ≠ B) (hC : g ≠ C) (hq : blockOf q ≠ some g) (hr : blockOf r ≠ some g) : Two N w0 w' B C q r len c1 m c2 S R :=
  ⟨⟨h.s.kept k (fun e => hB e.symm) (fun j hj e => hq (by rw [← e]; exact hj)), h.rf.kept k (fun e => hC e.symm) (fun j hj e => hr (by rw [← e]; exact hj)), h.apart, h.nB, h.nC, h.nq, h.nr, Nat.le_trans h.base k.size, Kept.from h.below k h.base hN⟩, h.rise, h.perm⟩
/-- The given list, short of its mark. -/
theorem TReads.short {w : World} {a : Option Addr} {len c : Nat} {l : List (Int × Int)} {t : Int × Int} (r : TReads w a (len + 1) c (l ++ [t])) : TReads w a len c l := by
  have hl := r.length
  rw [List.length_append] at hl
  have hl' : l.length = len := by simpa using hl
  refine ⟨hl', Nat.le_of_succ_le r.room, r.small, fun x hx => r.fit x (List.mem_append_left _ hx), fun h => ?_⟩
  obtain ⟨b, off, e, hc⟩ := r.cells (by omega)
  refine ⟨b, off, e, fun i hi => ?_⟩
  have := hc i (by omega)
  have e2 : (l ++ [t]).getD i (0, 0) = l.getD i (0, 0) := by
    rw [List.getD_eq_getElem?_getD, List.getElem?_append_left (by omega), ← List.getD_eq_getElem?_getD]
  rw [e2] at this
  exact this
end Go.Proofs.Ytpgfmoddhjhlkaa
