import Derived.Test.YtojepeefphbekaaGreatCalls
import Derived.Deep.DeepCutAuto
import Derived.Laws.AppendOwn
import Derived.Deep.DeepAppendWide
import Derived.OwnWalk
namespace Go.Proofs.YtojepeefphbekaaGreat
open Go.RowKit

/-- The slice reads as these tags. -/
structure TReads (w : World) (a : Option Addr) (len cap : Nat) (l : List (Int × Int)) : Prop where
  length : l.length = len
  room : len ≤ cap
  small : cap ≤ maxLen
  fit : ∀ t ∈ l, (-9223372036854775808 ≤ t.1 ∧ t.1 < 9223372036854775808) ∧ (-9223372036854775808 ≤ t.2 ∧ t.2 < 9223372036854775808)
  cells : 0 < len → ∃ b off, a = some ⟨b, off, none⟩ ∧ ∀ i, i < len → w.cell? ⟨b, off + i * 2, none⟩ = some (.int .i64 (l.getD i (0, 0)).1) ∧ w.cell? ⟨b, off + i * 2 + 1, none⟩ = some (.int .i64 (l.getD i (0, 0)).2)
/-- The greatest. -/
def maxFrom (m : Int × Int) : List (Int × Int) → Int × Int
  | [] => m
  | t :: r => maxFrom (if 0 < tcmp t.1 t.2 m.1 m.2 then t else m) r
def maxT : List (Int × Int) → Int × Int
  | [] => (0, 0)
  | t :: r => maxFrom t r
theorem maxFrom_snoc (r : List (Int × Int)) : ∀ (m x : Int × Int), maxFrom m (r ++ [x]) = if 0 < tcmp x.1 x.2 (maxFrom m r).1 (maxFrom m r).2 then x else maxFrom m r := by
  induction r with
  | nil => intro m x; rfl
  | cons t r ih => intro m x; exact ih _ x
theorem maxT_take (l : List (Int × Int)) (i : Nat) (h1 : 1 ≤ i) (hi : i < l.length) : maxT (l.take (i + 1)) = if 0 < tcmp (l.getD i (0, 0)).1 (l.getD i (0, 0)).2 (maxT (l.take i)).1 (maxT (l.take i)).2 then l.getD i (0, 0) else maxT (l.take i) := by
  rw [List.take_succ_eq_append_getElem hi]
  have e : l.getD i (0, 0) = l[i] := by rw [List.getD_eq_getElem?_getD, List.getElem?_eq_getElem hi]; rfl
  rw [e]
  cases l with
  | nil => simp at hi
  | cons t r =>
    obtain ⟨j, rfl⟩ : ∃ j, i = j + 1 := ⟨i - 1, by omega⟩
    rw [List.take_succ_cons, List.cons_append]
    exact maxFrom_snoc _ _ _
end Go.Proofs.YtojepeefphbekaaGreat

namespace Go.Proofs.YtojepeefphbekaaGreat
open Go.RowKit

/-- Three halves of 2^47 bytes: what grows for them stays under 2^48. -/
theorem wide16 {n : Nat} (h : n * 16 ≤ 211106232532992) : (n + n / 4 + 192) * 16 ≤ 281474976710656 := by omega
def tcells (l : List (Int × Int)) : List Value := l.flatMap fun t => [.int .i64 t.1, .int .i64 t.2]
theorem tcells_append (l m : List (Int × Int)) : tcells (l ++ m) = tcells l ++ tcells m := by simp [tcells]
theorem tcells_length (l : List (Int × Int)) : (tcells l).length = l.length * 2 := by
  induction l with
  | nil => rfl
  | cons t r ih => simp only [tcells, List.flatMap_cons, List.length_append, List.length_cons, List.length_nil] at ih ⊢; omega
theorem tcells_one (l : List (Int × Int)) : ∀ u ∈ tcells l, u.oneCell' = true := fun u hu => by
  obtain ⟨t, _, h⟩ := List.mem_flatMap.1 hu
  simp at h
  rcases h with rfl | rfl <;> rfl
theorem tcells_get (l : List (Int × Int)) : ∀ i, i < l.length → (tcells l)[i * 2]? = some (.int .i64 (l.getD i (0, 0)).1) ∧ (tcells l)[i * 2 + 1]? = some (.int .i64 (l.getD i (0, 0)).2) := by
  induction l with
  | nil => intro i h; simp at h
  | cons t r ih =>
    intro i h
    have e : tcells (t :: r) = .int .i64 t.1 :: .int .i64 t.2 :: tcells r := rfl
    rw [e]
    cases i with
    | zero => exact ⟨rfl, rfl⟩
    | succ i =>
      obtain ⟨h1, h2⟩ := ih i (by simpa using h)
      have e1 : (i + 1) * 2 = i * 2 + 1 + 1 := by omega
      rw [e1]
      exact ⟨h1, h2⟩
/-- All numbers are of their kind. -/
def Fit (l : List (Int × Int)) : Prop := ∀ t ∈ l, (-9223372036854775808 ≤ t.1 ∧ t.1 < 9223372036854775808) ∧ (-9223372036854775808 ≤ t.2 ∧ t.2 < 9223372036854775808)
theorem owns_treads {w : World} {base k : Nat} {v : Value} {l : List (Int × Int)} (h : w.ownsRow base 37 2 v k (tcells l)) (hf : Fit l) :
    ∃ a cap, v = .slice a k cap ∧ TReads w a k cap l ∧ ∀ p, a = some p → base ≤ p.block := by
  have hl : l.length = k := by have := h.1; rw [tcells_length] at this; omega
  rcases h.2 with ⟨rfl, rfl⟩ | ⟨g, cap, cur, rfl, hb, hg, hk, hm, hs, ht⟩
  · exact ⟨none, 0, rfl, ⟨hl, Nat.le_refl _, by unfold maxLen; omega, hf, fun h0 => absurd h0 (by omega)⟩, fun _ q => by cases q⟩
  · refine ⟨_, cap, rfl, ⟨hl, hk, hm, hf, fun _ => ⟨g, 0, rfl, fun i hi => ?_⟩⟩, fun p q => by cases q; exact hb⟩
    obtain ⟨e0, e1⟩ := tcells_get l i (by omega)
    rw [← ht, List.getElem?_take_of_lt (by omega)] at e0 e1
    refine ⟨?_, ?_⟩
    · rw [cell_of_row w g _ cur 37 (0, 0) hg, Nat.zero_add]
      simpa using e0
    · rw [cell_of_row w g _ cur 37 (0, 0) hg, Nat.zero_add]
      simpa using e1
theorem TReads.by {w w' : World} {a : Option Addr} {len cap : Nat} {l : List (Int × Int)} (r : TReads w a len cap l) (B : Below w.heap.size w w') : TReads w' a len cap l := ⟨r.length, r.room, r.small, r.fit, fun h => by
  obtain ⟨b, off, e, hc⟩ := r.cells h
  refine ⟨b, off, e, fun i hi => ?_⟩
  obtain ⟨q0, q1⟩ := hc i hi
  have lb : b < w.heap.size := World.block_lt_of_cell? w _ q0
  exact ⟨(B.cell lb).trans q0, (B.cell lb).trans q1⟩⟩
theorem Tryz.info37b : (Tryz.prog.info? 37).map (fun i => (i.zero, i.size, i.bytes)) = some (some (.agg #[.int .i64 0, .int .i64 0]), 2, 16) := by kernel_rfl
/-- append of one tag, at the operation. -/
theorem wpList_append_tag {ops : Array Oper} {rest : List Oper} {o : Oper} {a : Act} {Q : Exit → Act → World → Prop} (w : World) (hgd : o.guard = none) (s x : Operand)
    (ho : o.op = .call { callee := .builtin .append, args := #[s, x], argTypes := #[117, 117] })
    (base : Nat) (v : Value) (n : Nat) (l : List (Int × Int)) (hs : a.eval s = v) (hown : w.ownsRow base 37 2 v n (tcells l))
    (b : Nat) (t : Int × Int) (hx : a.eval x = .slice (some ⟨b, 0, none⟩) 1 1) (h0 : w.cell? ⟨b, 0, none⟩ = some (.int .i64 t.1)) (h1 : w.cell? ⟨b, 1, none⟩ = some (.int .i64 t.2))
    (hbytes : (n + 1) * 16 ≤ 211106232532992) (hbase : base ≤ w.heap.size)
    (h : ∀ g c w', Hid (w'.ownsRow base 37 2 (.slice (some ⟨g, 0, none⟩) (n + 1) c) (n + 1) (tcells (l ++ [t]))) → Hid (w.grownBy w' v.ownBlock) → Hid (base ≤ g ∧ n + 1 ≤ c ∧ c ≤ maxLen) → wpList Tryz.prog ops Q rest (a.put o.dst (.slice (some ⟨g, 0, none⟩) (n + 1) c)) w') : wpList Tryz.prog ops Q (o :: rest) a w := by
  obtain ⟨i, hi, hz, hsize, hby⟩ := info_parts Tryz.info37b
  have add0 : ∀ j, (⟨b, 0, none⟩ : Addr).add j = ⟨b, j, none⟩ := fun j => by unfold Addr.add; split <;> simp_all
  refine wpList_append_own_wide w hgd s x 117 ho base 37 i (.agg #[.int .i64 0, .int .i64 0]) 2 16 Tryz.underlying117 hi hz hsize hby rfl (by omega) v n (tcells l) hs hown ⟨b, 0, none⟩ 1 1 (tcells [t]) hx rfl (fun j u hj => ?_) (tcells_one _) (by unfold maxLen; omega) (wide16 hbytes) hbase (fun v' w' h2 h3 _ => ?_)
  · rw [add0]
    have : tcells [t] = [.int .i64 t.1, .int .i64 t.2] := rfl
    rw [this] at hj
    match j, hj with
    | 0, hj => simp at hj; subst hj; exact h0
    | 1, hj => simp at hj; subst hj; exact h1
    | j + 2, hj => simp at hj
  · rw [← tcells_append] at h2
    obtain ⟨g, c, rfl, hh⟩ : ∃ g c, v' = .slice (some ⟨g, 0, none⟩) (n + 1) c ∧ base ≤ g ∧ n + 1 ≤ c ∧ c ≤ maxLen := by
      rcases h2.2 with ⟨rfl, e⟩ | ⟨g, cap, cur, rfl, hb, _, hc, hm, _⟩
      · omega
      · exact ⟨_, _, rfl, hb, hc, hm⟩
    exact h g c w' h2 h3 hh
theorem Below.grew {w wr w' : World} {v : Value} {n : Nat} {xs : List Value} (B : Below w.heap.size w wr) (o : wr.ownsRow w.heap.size 37 2 v n xs) (g : wr.grownBy w' v.ownBlock) : Below w.heap.size w w' :=
  B.grown g B.size (fun k e => (o.lt k e).1)
theorem below_drewN (w : World) (k : Nat) : Below w.heap.size w (w.drewN k) := ⟨rfl, rfl, rfl, Nat.le_refl _, fun _ _ => rfl⟩
theorem getD_at (l : List (Int × Int)) (i : Nat) (h : i < l.length) : l.getD i (0, 0) = l[i] := by
  rw [List.getD_eq_getElem?_getD, List.getElem?_eq_getElem h]; rfl
theorem take_next (l m : List (Int × Int)) (i : Nat) (h1 : i < l.length) (h2 : i < m.length) (h : l.take i = m.take i) (he : l.getD i (0, 0) = m.getD i (0, 0)) : l.take (i + 1) = m.take (i + 1) := by
  rw [List.take_succ_eq_append_getElem h1, List.take_succ_eq_append_getElem h2, h, ← getD_at l i h1, ← getD_at m i h2, he]
end Go.Proofs.YtojepeefphbekaaGreat
