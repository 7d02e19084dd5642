import Derived.Test.YtojepeefphbekabGreatCallsJ
import Derived.Deep.DeepCutAuto
import Derived.Laws.AppendOwn
import Derived.Deep.DeepAppendWide
import Derived.OwnWalk
namespace Go.Proofs.YtojepeefphbekabGreat
open Go.RowKit

/-- The slice reads as these tags. -/
structure TReads (w : World) (a : Option Addr) (len cap : Nat) (l : List (Int × Int)) : Prop where
  length : l.length = len
  room : len ≤ cap
  small : cap ≤ maxLen
  fit : ∀ t ∈ l, (-9223372036854775808 ≤ t.1 ∧ t.1 < 9223372036854775808) ∧ (-9223372036854775808 ≤ t.2 ∧ t.2 < 9223372036854775808)
  cells : 0 < len → ∃ b off, a = some ⟨b, off, none⟩ ∧ ∀ i, i < len → w.cell? ⟨b, off + i * 2, none⟩ = some (.int .i64 (l.getD i (0, 0)).1) ∧ w.cell? ⟨b, off + i * 2 + 1, none⟩ = some (.int .i64 (l.getD i (0, 0)).2)
/-- The greatest. -/
def maxFrom (m : Int × Int) : List (Int × Int) → Int × Int
  | [] => m
  | t :: r => maxFrom (if 0 < tcmp t.1 t.2 m.1 m.2 then t else m) r
def maxT : List (Int × Int) → Int × Int
  | [] => (0, 0)
  | t :: r => maxFrom t r
theorem maxFrom_snoc (r : List (Int × Int)) : ∀ (m x : Int × Int), maxFrom m (r ++ [x]) = if 0 < tcmp x.1 x.2 (maxFrom m r).1 (maxFrom m r).2 then x else maxFrom m r := by
  induction r with
  | nil => intro m x; rfl
  | cons t r ih => intro m x; exact ih _ x
theorem maxT_take (l : List (Int × Int)) (i : Nat) (h1 : 1 ≤ i) (hi : i < l.length) : maxT (l.take (i + 1)) = if 0 < tcmp (l.getD i (0, 0)).1 (l.getD i (0, 0)).2 (maxT (l.take i)).1 (maxT (l.take i)).2 then l.getD i (0, 0) else maxT (l.take i) := by
  rw [List.take_succ_eq_append_getElem hi]
  have e : l.getD i (0, 0) = l[i] := by rw [List.getD_eq_getElem?_getD, List.getElem?_eq_getElem hi]; rfl
  rw [e]
  cases l with
  | nil => simp at hi
  | cons t r =>
    obtain ⟨j, rfl⟩ : ∃ j, i = j + 1 := ⟨i - 1, by omega⟩
    rw [List.take_succ_cons, List.cons_append]
    exact maxFrom_snoc _ _ _
end Go.Proofs.YtojepeefphbekabGreat

namespace Go.Proofs.YtojepeefphbekabGreat
open Go.RowKit

/-- Three halves of 2^47 bytes: what grows for them stays under 2^48. -/
theorem wide16 {n : Nat} (h : n * 16 ≤ 211106232532992) : (n + n / 4 + 192) * 16 ≤ 281474976710656 := by omega
def tcells (l : List (Int × Int)) : List Value := l.flatMap fun t => [.int .i64 t.1, .int .i64 t.2]
theorem tcells_append (l m : List (Int × Int)) : tcells (l ++ m) = tcells l ++ tcells m := by simp [tcells]
theorem tcells_length (l : List (Int × Int)) : (tcells l).length = l.length * 2 := by
  induction l with
  | nil => rfl
  | cons t r ih => simp only [tcells, List.flatMap_cons, List.length_append, List.length_cons, List.length_nil] at ih ⊢; omega
theorem tcells_one (l : List (Int × Int)) : ∀ u ∈ tcells l, u.oneCell' = true := fun u hu => by
  obtain ⟨t, _, h⟩ := List.mem_flatMap.1 hu
  simp at h
  rcases h with rfl | rfl <;> rfl
theorem tcells_get (l : List (Int × Int)) : ∀ i, i < l.length → (tcells l)[i * 2]? = some (.int .i64 (l.getD i (0, 0)).1) ∧ (tcells l)[i * 2 + 1]? = some (.int .i64 (l.getD i (0, 0)).2) := by
  induction l with
  | nil => intro i h; simp at h
  | cons t r ih =>
    intro i h
    have e : tcells (t :: r) = .int .i64 t.1 :: .int .i64 t.2 :: tcells r := rfl
    rw [e]
    cases i with
    | zero => exact ⟨rfl, rfl⟩
    | succ i =>
      obtain ⟨h1, h2⟩ := ih i (by simpa using h)
      have e1 : (i + 1) * 2 = i * 2 + 1 + 1 := by omega
      rw [e1]
      exact ⟨h1, h2⟩
/-- All numbers are of their kind. -/
def Fit (l : List (Int × Int)) : Prop := ∀ t ∈ l, (-9223372036854775808 ≤ t.1 ∧ t.1 < 9223372036854775808) ∧ (-9223372036854775808 ≤ t.2 ∧ t.2 < 9223372036854775808)
theorem owns_treads {w : World} {base k : Nat} {v : Value} {l : List (Int × Int)} (h : w.ownsRow base 31 2 v k (tcells l)) (hf : Fit l) :
    ∃ a cap, v = .slice a k cap ∧ TReads w a k cap l ∧ ∀ p, a = some p → base ≤ p.block := by
  have hl : l.length = k := by have := h.1; rw [tcells_length] at this; omega
  rcases h.2 with ⟨rfl, rfl⟩ | ⟨g, cap, cur, rfl, hb, hg, hk, hm, hs, ht⟩
  · exact ⟨none, 0, rfl, ⟨hl, Nat.le_refl _, by unfold maxLen; omega, hf, fun h0 => absurd h0 (by omega)⟩, fun _ q => by cases q⟩
  · refine ⟨_, cap, rfl, ⟨hl, hk, hm, hf, fun _ => ⟨g, 0, rfl, fun i hi => ?_⟩⟩, fun p q => by cases q; exact hb⟩
    obtain ⟨e0, e1⟩ := tcells_get l i (by omega)
    rw [← ht, List.getElem?_take_of_lt (by omega)] at e0 e1
    refine ⟨?_, ?_⟩
    · rw [cell_of_row w g _ cur 31 (0, 0) hg, Nat.zero_add]
      simpa using e0
    · rw [cell_of_row w g _ cur 31 (0, 0) hg, Nat.zero_add]
      simpa using e1
theorem TReads.by {w w' : World} {a : Option Addr} {len cap : Nat} {l : List (Int × Int)} (r : TReads w a len cap l) (B : Below w.heap.size w w') : TReads w' a len cap l := ⟨r.length, r.room, r.small, r.fit, fun h => by
  obtain ⟨b, off, e, hc⟩ := r.cells h
  refine ⟨b, off, e, fun i hi => ?_⟩
  obtain ⟨q0, q1⟩ := hc i hi
  have lb : b < w.heap.size := World.block_lt_of_cell? w _ q0
  exact ⟨(B.cell lb).trans q0, (B.cell lb).trans q1⟩⟩
theorem Tryz.info31b : (Tryz.prog.info? 31).map (fun i => (i.zero, i.size, i.bytes)) = some (some (.agg #[.int .i64 0, .int .i64 0]), 2, 16) := by kernel_rfl
/-- append of one tag, at the operation. -/
theorem wpList_append_tag {ops : Array Oper} {rest : List Oper} {o : Oper} {a : Act} {Q : Exit → Act → World → Prop} (w : World) (hgd : o.guard = none) (s x : Operand)
    (ho : o.op = .call { callee := .builtin .append, args := #[s, x], argTypes := #[79, 79] })
    (base : Nat) (v : Value) (n : Nat) (l : List (Int × Int)) (hs : a.eval s = v) (hown : w.ownsRow base 31 2 v n (tcells l))
    (b : Nat) (t : Int × Int) (hx : a.eval x = .slice (some ⟨b, 0, none⟩) 1 1) (h0 : w.cell? ⟨b, 0, none⟩ = some (.int .i64 t.1)) (h1 : w.cell? ⟨b, 1, none⟩ = some (.int .i64 t.2))
    (hbytes : (n + 1) * 16 ≤ 211106232532992) (hbase : base ≤ w.heap.size)
    (h : ∀ g c w', Hid (w'.ownsRow base 31 2 (.slice (some ⟨g, 0, none⟩) (n + 1) c) (n + 1) (tcells (l ++ [t]))) → Hid (w.grownBy w' v.ownBlock) → Hid (base ≤ g ∧ n + 1 ≤ c ∧ c ≤ maxLen) → wpList Tryz.prog ops Q rest (a.put o.dst (.slice (some ⟨g, 0, none⟩) (n + 1) c)) w') : wpList Tryz.prog ops Q (o :: rest) a w := by
  obtain ⟨i, hi, hz, hsize, hby⟩ := info_parts Tryz.info31b
  have add0 : ∀ j, (⟨b, 0, none⟩ : Addr).add j = ⟨b, j, none⟩ := fun j => by unfold Addr.add; split <;> simp_all
  refine wpList_append_own_wide w hgd s x 79 ho base 31 i (.agg #[.int .i64 0, .int .i64 0]) 2 16 Tryz.underlying79 hi hz hsize hby rfl (by omega) v n (tcells l) hs hown ⟨b, 0, none⟩ 1 1 (tcells [t]) hx rfl (fun j u hj => ?_) (tcells_one _) (by unfold maxLen; omega) (wide16 hbytes) hbase (fun v' w' h2 h3 _ => ?_)
  · rw [add0]
    have : tcells [t] = [.int .i64 t.1, .int .i64 t.2] := rfl
    rw [this] at hj
    match j, hj with
    | 0, hj => simp at hj; subst hj; exact h0
    | 1, hj => simp at hj; subst hj; exact h1
    | j + 2, hj => simp at hj
  · rw [← tcells_append] at h2
    obtain ⟨g, c, rfl, hh⟩ : ∃ g c, v' = .slice (some ⟨g, 0, none⟩) (n + 1) c ∧ base ≤ g ∧ n + 1 ≤ c ∧ c ≤ maxLen := by
      rcases h2.2 with ⟨rfl, e⟩ | ⟨g, cap, cur, rfl, hb, _, hc, hm, _⟩
      · omega
      · exact ⟨_, _, rfl, hb, hc, hm⟩
    exact h g c w' h2 h3 hh
theorem Below.grew {w wr w' : World} {v : Value} {n : Nat} {xs : List Value} (B : Below w.heap.size w wr) (o : wr.ownsRow w.heap.size 31 2 v n xs) (g : wr.grownBy w' v.ownBlock) : Below w.heap.size w w' :=
  B.grown g B.size (fun k e => (o.lt k e).1)
theorem below_drewN (w : World) (k : Nat) : Below w.heap.size w (w.drewN k) := ⟨rfl, rfl, rfl, Nat.le_refl _, fun _ _ => rfl⟩
theorem getD_at (l : List (Int × Int)) (i : Nat) (h : i < l.length) : l.getD i (0, 0) = l[i] := by
  rw [List.getD_eq_getElem?_getD, List.getElem?_eq_getElem h]; rfl
theorem take_next (l m : List (Int × Int)) (i : Nat) (h1 : i < l.length) (h2 : i < m.length) (h : l.take i = m.take i) (he : l.getD i (0, 0) = m.getD i (0, 0)) : l.take (i + 1) = m.take (i + 1) := by
  rw [List.take_succ_eq_append_getElem h1, List.take_succ_eq_append_getElem h2, h, ← getD_at l i h1, ← getD_at m i h2, he]
end Go.Proofs.YtojepeefphbekabGreat

namespace Go.Proofs.YtojepeefphbekabGreat
open Go.RowKit

/-- All blocks but those of S are as they were. -/
structure Kept (S : Nat → Prop) (w w' : World) : Prop where
  os : w'.os = w.os
  tape : w'.tape = w.tape
  output : w'.output = w.output
  size : w.heap.size ≤ w'.heap.size
  block : ∀ k, k < w.heap.size → ¬ S k → w'.heap[k]? = w.heap[k]?
theorem Kept.refl (S : Nat → Prop) (w : World) : Kept S w w := ⟨rfl, rfl, rfl, Nat.le_refl _, fun _ _ _ => rfl⟩
theorem Kept.trans {S S' : Nat → Prop} {a b c : World} (h : Kept S a b) (k : Kept S' b c) (hs : ∀ j, j < a.heap.size → S' j → S j) : Kept S a c :=
  ⟨k.os.trans h.os, k.tape.trans h.tape, k.output.trans h.output, Nat.le_trans h.size k.size, fun i hi hn =>
    (k.block i (Nat.lt_of_lt_of_le hi h.size) (fun q => hn (hs i hi q))).trans (h.block i hi hn)⟩
theorem Kept.mono {S S' : Nat → Prop} {a b : World} (h : Kept S a b) (hs : ∀ j, j < a.heap.size → S j → S' j) : Kept S' a b :=
  ⟨h.os, h.tape, h.output, h.size, fun i hi hn => h.block i hi (fun q => hn (hs i hi q))⟩
theorem Kept.drew {S : Nat → Prop} {a b : World} (h : Kept S a b) : Kept S a b.drew := ⟨h.os, h.tape, h.output, h.size, h.block⟩
theorem Kept.drewN {S : Nat → Prop} {a b : World} (h : Kept S a b) (n : Nat) : Kept S a (b.drewN n) := ⟨h.os, h.tape, h.output, h.size, h.block⟩
theorem Kept.alloc {S : Nat → Prop} {a b : World} (h : Kept S a b) (o : Obj) : Kept S a (b.alloc o) :=
  h.trans (S' := fun _ => False) ⟨rfl, rfl, rfl, by simp, fun k hk _ => Below.heap_alloc _ _ _ hk⟩ (fun _ _ q => q.elim)
theorem Kept.setCell {S : Nat → Prop} {a b : World} (h : Kept S a b) {p : Addr} (hp : p.block < a.heap.size → S p.block) (u : Value) : Kept S a (b.setCell p u) :=
  h.trans (S' := fun k => k = p.block) ⟨rfl, rfl, rfl, by simp [World.setCell], fun k _ hn => Below.heap_setCell _ _ _ _ hn⟩ (fun _ hj q => by subst q; exact hp hj)
theorem Kept.grown {S : Nat → Prop} {a b c : World} {row : Option Nat} (h : Kept S a b) (hg : b.grownBy c row) (hr : ∀ k, k < a.heap.size → row = some k → S k) : Kept S a c :=
  h.trans (S' := fun k => row = some k) ⟨hg.os, hg.tape, hg.output, hg.size, fun k hk hn => hg.block k hk (fun e => hn e.symm)⟩ hr
theorem Kept.below {S : Nat → Prop} {a b : World} {N : Nat} (h : Kept S a b) (hN : N ≤ a.heap.size) (hs : ∀ k, S k → N ≤ k) : Below N a b :=
  ⟨h.os, h.tape, h.output, h.size, fun k hk => h.block k (by omega) (fun q => by have := hs k q; omega)⟩
theorem Kept.of_below {a b : World} {N : Nat} (h : Below N a b) : Kept (fun k => N ≤ k) a b := ⟨h.os, h.tape, h.output, h.size, fun k _ hn => h.block k (by omega)⟩
theorem Kept.get {S : Nat → Prop} {w w' : World} (h : Kept S w w') {b : Nat} {o : Obj} (hb : w.heap[b]? = some o) (hn : ¬ S b) : w'.heap[b]? = some o :=
  (h.block b (Array.getElem?_eq_some_iff.1 hb).1 hn).trans hb
theorem Kept.cell {S : Nat → Prop} {w w' : World} (h : Kept S w w') {p : Addr} {v : Value} (hp : w.cell? p = some v) (hn : ¬ S p.block) : w'.cell? p = some v :=
  (World.cell?_of_block (w := w) (h.block p.block (World.block_lt_of_cell? w p hp) hn)).trans hp
theorem Kept.owns {S : Nat → Prop} {w w' : World} (h : Kept S w w') {base : Nat} {e : TypeId} {size : Nat} {v : Value} {n : Nat} {xs : List Value} (ho : w.ownsRow base e size v n xs) (hn : ∀ k, v.ownBlock = some k → ¬ S k) : w'.ownsRow base e size v n xs := by
  refine ⟨ho.1, ?_⟩
  rcases ho.2 with q | ⟨g, cap, cur, rfl, hb, hgg, rest⟩
  · exact .inl q
  · exact .inr ⟨g, cap, cur, rfl, hb, h.get hgg (hn g rfl), rest⟩
theorem block_lt {w : World} {b : Nat} {o : Obj} (h : w.heap[b]? = some o) : b < w.heap.size := (Array.getElem?_eq_some_iff.1 h).1

theorem Addr.add_none (b off j : Nat) : (⟨b, off, none⟩ : Addr).add j = ⟨b, off + j, none⟩ := by unfold Addr.add; split <;> simp_all
/-- A block's cell, and that it may be written. -/
theorem cell_blk {w : World} {b : Nat} {cs : Array Value} {t : TypeId} (h : w.heap[b]? = some (.cells cs t (0, 0))) (i : Nat) {v : Value} (hv : cs[i]? = some v) : w.cell? ⟨b, i, none⟩ = some v := by
  rw [cell_of_row w b i cs t (0, 0) h]; exact hv
theorem soft_blk {w : World} {b : Nat} {cs : Array Value} {t : TypeId} (h : w.heap[b]? = some (.cells cs t (0, 0))) (i : Nat) : w.frozen? ⟨b, i, none⟩ = false := by
  simp [World.frozen?, h]

end Go.Proofs.YtojepeefphbekabGreat
