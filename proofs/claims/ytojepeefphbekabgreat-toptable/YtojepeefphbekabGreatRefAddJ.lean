import Derived.Test.YtojepeefphbekabGreatBaseJ
import Derived.Deep.AppendSrc
import Derived.Deep.AppendLies
import Derived.Test.YtojepeefphbekabGreatRefFromJ
import Derived.Deep.RegionLaw
namespace Go.Proofs.YtojepeefphbekabGreat
open Go.RowKit

/-- A list of tags with room behind it, wherever in its block it begins. -/
structure Row (w : World) (a : Option Addr) (len cap : Nat) (S : List (Int × Int)) : Prop where
  length : S.length = len
  room : len ≤ cap
  small : cap ≤ maxLen
  fit : Fit S
  pos : (a = none ∧ cap = 0) ∨ ∃ g off cur, a = some ⟨g, off, none⟩ ∧ w.heap[g]? = some (.cells cur 31 (0, 0)) ∧ off + cap * 2 ≤ cur.size ∧ (cur.toList.drop off).take (len * 2) = tcells S
theorem Row.cell {w : World} {g off len : Nat} {S : List (Int × Int)} {cur : Array Value} (hg : w.heap[g]? = some (.cells cur 31 (0, 0))) (ht : (cur.toList.drop off).take (len * 2) = tcells S) (hl : S.length = len) (j : Nat) (u : Value) (h : (tcells S)[j]? = some u) : w.cell? ⟨g, off + j, none⟩ = some u := by
  have jl : j < len * 2 := by
    have := (List.getElem?_eq_some_iff.1 h).1
    rw [tcells_length] at this
    omega
  rw [← ht, List.getElem?_take_of_lt jl, List.getElem?_drop] at h
  rw [cell_of_row w g _ cur 31 (0, 0) hg]
  simpa using h
theorem Row.reads {w : World} {a : Option Addr} {len cap : Nat} {S : List (Int × Int)} (r : Row w a len cap S) : TReads w a len cap S := by
  refine ⟨r.length, r.room, r.small, r.fit, fun h0 => ?_⟩
  rcases r.pos with ⟨rfl, hc⟩ | ⟨g, off, cur, rfl, hg, hs, ht⟩
  · have := r.room; omega
  · refine ⟨g, off, rfl, fun i hi => ?_⟩
    obtain ⟨e0, e1⟩ := tcells_get S i (by rw [r.length]; exact hi)
    refine ⟨Row.cell hg ht r.length _ _ e0, ?_⟩
    have := Row.cell hg ht r.length _ _ e1
    rw [← Nat.add_assoc] at this
    exact this
theorem Row.of_owns {w : World} {base k : Nat} {a : Option Addr} {cap : Nat} {l : List (Int × Int)} (h : w.ownsRow base 31 2 (.slice a k cap) k (tcells l)) (hf : Fit l) : Row w a k cap l ∧ ∀ p, a = some p → base ≤ p.block := by
  have hl : l.length = k := by have := h.1; rw [tcells_length] at this; omega
  rcases h.2 with ⟨e, e0⟩ | ⟨g, cap', cur, e, hb, hg, hk, hm, hs, ht⟩
  · simp at e
    obtain ⟨rfl, _, rfl⟩ := e
    exact ⟨⟨hl, by omega, by unfold maxLen; omega, hf, .inl ⟨rfl, rfl⟩⟩, fun _ q => by cases q⟩
  · simp at e
    obtain ⟨rfl, rfl⟩ := e
    exact ⟨⟨hl, hk, hm, hf, .inr ⟨g, 0, cur, rfl, hg, by omega, by simpa using ht⟩⟩, fun p q => by cases q; exact hb⟩
theorem Row.kept {K : Nat → Prop} {w w' : World} {a : Option Addr} {len cap : Nat} {S : List (Int × Int)} (h : Kept K w w') (r : Row w a len cap S) (hn : ∀ p, a = some p → ¬ K p.block) : Row w' a len cap S := by
  refine ⟨r.length, r.room, r.small, r.fit, ?_⟩
  rcases r.pos with q | ⟨g, off, cur, rfl, hg, hs, ht⟩
  · exact .inl q
  · exact .inr ⟨g, off, cur, rfl, h.get hg (hn _ rfl), hs, ht⟩
theorem Row.by {w w' : World} {a : Option Addr} {len cap : Nat} {S : List (Int × Int)} (r : Row w a len cap S) (B : Below w.heap.size w w') : Row w' a len cap S := by
  refine ⟨r.length, r.room, r.small, r.fit, ?_⟩
  rcases r.pos with q | ⟨g, off, cur, rfl, hg, hs, ht⟩
  · exact .inl q
  · exact .inr ⟨g, off, cur, rfl, (B.block g (Array.getElem?_eq_some_iff.1 hg).1).trans hg, hs, ht⟩
theorem Row.lt {w : World} {g off len cap : Nat} {S : List (Int × Int)} (r : Row w (some ⟨g, off, none⟩) len cap S) : g < w.heap.size := by
  rcases r.pos with ⟨q, _⟩ | ⟨g', off', cur, e, hg, _⟩
  · cases q
  · simp at e
    obtain ⟨rfl, rfl⟩ := e
    exact (Array.getElem?_eq_some_iff.1 hg).1
def blockOf (a : Option Addr) : Option Nat := a.map (·.block)
/-- append of one tag onto such a list. -/
theorem row_append (w : World) (ty : TypeId) (a : Option Addr) (len cap : Nat) (S : List (Int × Int)) (r : Row w a len cap S) (b : Nat) (t : Int × Int) (hf : Fit [t])
    (h0 : w.cell? ⟨b, 0, none⟩ = some (.int .i64 t.1)) (h1 : w.cell? ⟨b, 1, none⟩ = some (.int .i64 t.2)) (hbytes : (len + 1) * 16 ≤ 211106232532992) :
    ∃ a' cap' w', (Builtin.append_ #[79, 79] ty #[.slice a len cap, .slice (some ⟨b, 0, none⟩) 1 1]).run Tryz.prog w = .ok (.slice a' (len + 1) cap') w' ∧ Row w' a' (len + 1) cap' (S ++ [t]) ∧ w.grownBy w' (blockOf a) ∧ (a' = a ∨ a' = some ⟨w.heap.size, 0, none⟩) := by
  obtain ⟨i, hi, hz, hsize, hby⟩ := info_parts Tryz.info31b
  have add0 : ∀ j, (⟨b, 0, none⟩ : Addr).add j = ⟨b, j, none⟩ := fun j => by unfold Addr.add; split <;> simp_all
  have addn : ∀ g o j, (⟨g, o, none⟩ : Addr).add j = ⟨g, o + j, none⟩ := fun g o j => by unfold Addr.add; split <;> simp_all
  have src : Src Tryz.prog 2 79 (.slice (some ⟨b, 0, none⟩) 1 1) 1 (tcells [t]) w := Src.ofSlice w Tryz.underlying79 ⟨b, 0, none⟩ 1 1 (tcells [t]) rfl (fun j u hj => by
    rw [add0]
    have : tcells [t] = [.int .i64 t.1, .int .i64 t.2] := rfl
    rw [this] at hj
    match j, hj with
    | 0, hj => simp at hj; subst hj; exact h0
    | 1, hj => simp at hj; subst hj; exact h1
    | j + 2, hj => simp at hj) (tcells_one _)
  have src' : Src Tryz.prog i.size 79 (.slice (some ⟨b, 0, none⟩) 1 1) 1 (tcells [t]) w := by rw [hsize]; exact src
  have hft : Fit (S ++ [t]) := fun x hx => by
    rcases List.mem_append.1 hx with m | m
    · exact r.fit x m
    · exact hf x m
  have hln : (S ++ [t]).length = len + 1 := by rw [List.length_append, r.length]; rfl
  have h63 : len + 1 ≤ maxLen := by unfold maxLen; omega
  have tl : (tcells S).length = len * 2 := by rw [tcells_length, r.length]
  have growrun : cap < len + 1 → (Builtin.firstCells i.size len (.slice a len cap)).run Tryz.prog w.drew = .ok (tcells S).toArray w.drew →
      ∃ a' cap' w', (Builtin.append_ #[79, 79] ty #[.slice a len cap, .slice (some ⟨b, 0, none⟩) 1 1]).run Tryz.prog w = .ok (.slice a' (len + 1) cap') w' ∧ Row w' a' (len + 1) cap' (S ++ [t]) ∧ w.grownBy w' (blockOf a) ∧ (a' = a ∨ a' = some ⟨w.heap.size, 0, none⟩) := by
    intro hc hold
    have hr := run_append_grow_src (P := Tryz.prog) w 79 79 ty 31 i (.agg #[.int .i64 0, .int .i64 0]) Tryz.underlying79 hi hz a len cap (tcells S) hold _ 1 (tcells [t]) src' hc (by omega) (growslice_fits_wide (by omega) (by rw [hby]; exact wide16 hbytes))
    have hge := grownCap_ge w (len + 1) cap 31
    have hcm : grownCap w (len + 1) cap 31 ≤ maxLen := grownCap_le_maxLen w (len + 1) cap 31 h63
    refine ⟨_, _, _, hr, ⟨hln, hge, hcm, hft, .inr ⟨w.heap.size, 0, _, rfl, heap_alloc_new w.drew _, ?_, ?_⟩⟩, ⟨rfl, rfl, rfl, by simp, fun k hk _ => _root_.Go.heap_alloc_old w.drew _ hk⟩, .inr rfl⟩
    · simp only [Array.size_append, List.size_toArray, size_zeroCells, List.length_append, tl]
      have t2 : (tcells [t]).length = 2 := rfl
      have z2 : (Value.agg #[.int .i64 0, .int .i64 0]).cells.size = 2 := rfl
      rw [z2, t2]
      omega
    · rw [List.drop_zero, tcells_append]
      simp only [Array.toList_append]
      have e : (len + 1) * 2 = (tcells S ++ tcells [t]).length := by
        rw [List.length_append, tl]
        have : (tcells [t]).length = 2 := rfl
        omega
      rw [e]
      exact List.take_left
  rcases r.pos with ⟨rfl, rfl⟩ | ⟨g, off, cur, rfl, hg, hs, ht⟩
  · have l0 : len = 0 := by have := r.room; omega
    subst l0
    have hS : S = [] := List.eq_nil_of_length_eq_zero r.length
    subst hS
    exact growrun (by omega) (run_firstCells_none w.drew i.size 0 0 0)
  · by_cases hroom : len + 1 ≤ cap
    · have hfit : off + len * i.size + (tcells [t]).length ≤ cur.size := by
        have : (tcells [t]).length = 2 := rfl
        rw [hsize]; omega
      have hst := run_storeCells_at Tryz.prog g (off + len * i.size) 31 (tcells [t]) 0 cur w hg (by simpa using hfit) (tcells_one _)
      simp only [Nat.add_zero] at hst
      have hr : (Builtin.append_ #[79, 79] ty #[.slice (some ⟨g, off, none⟩) len cap, .slice (some ⟨b, 0, none⟩) 1 1]).run Tryz.prog w =
          .ok (.slice (some ⟨g, off, none⟩) (len + 1) cap) (w.setRow g (cur.toList.take (off + len * i.size) ++ tcells [t] ++ cur.toList.drop (off + len * i.size + (tcells [t]).length)).toArray) := by
        rcases src'.kind with ⟨e', hk⟩ | hk <;> simp [Builtin.append_, run_underlying Tryz.underlying79, sizeOf, typeInfo, hi, src'.len, hroom, src'.cells, addn, hst]
      refine ⟨_, _, _, hr, ⟨hln, hroom, r.small, hft, .inr ⟨g, off, _, rfl, setRow_heap w g cur _ 31 _ hg, ?_, ?_⟩⟩, ⟨rfl, rfl, rfl, by simp, fun k _ hk => setRow_other w g k _ (fun e => hk (by simp [blockOf, e]))⟩, .inl rfl⟩
      · simp only [List.size_toArray, List.length_append, List.length_take, List.length_drop, Array.length_toList]
        have : (tcells [t]).length = 2 := rfl
        rw [hsize] at hfit ⊢
        omega
      · have e2 : (tcells [t]).length = 2 := rfl
        rw [hsize, tcells_append]
        simp only []
        have hcl : off + len * 2 ≤ cur.toList.length := by rw [Array.length_toList]; omega
        rw [List.append_assoc, List.drop_append_of_le_length (by rw [List.length_take]; omega), List.drop_take]
        have e3 : off + len * 2 - off = len * 2 := by omega
        rw [e3, ht, ← List.append_assoc]
        have e4 : (len + 1) * 2 = (tcells S ++ tcells [t]).length := by rw [List.length_append, tl, e2]; omega
        rw [e4]
        exact List.take_left
    · exact growrun (by omega) (run_firstCells_some w.drew i.size len ⟨g, off, none⟩ len cap (tcells S) (by rw [hsize]; exact tl) (fun j u hj => by rw [addn]; exact Row.cell hg ht r.length j u hj))
/-- append of one tag, at the operation. -/
theorem wpList_append_row {ops : Array Oper} {rest : List Oper} {o : Oper} {a : Act} {Q : Exit → Act → World → Prop} (w : World) (hgd : o.guard = none) (s x : Operand)
    (ho : o.op = .call { callee := .builtin .append, args := #[s, x], argTypes := #[79, 79] })
    (q : Option Addr) (len cap : Nat) (S : List (Int × Int)) (hs : a.eval s = .slice q len cap) (r : Row w q len cap S)
    (b : Nat) (t : Int × Int) (hf : Fit [t]) (hx : a.eval x = .slice (some ⟨b, 0, none⟩) 1 1) (h0 : w.cell? ⟨b, 0, none⟩ = some (.int .i64 t.1)) (h1 : w.cell? ⟨b, 1, none⟩ = some (.int .i64 t.2)) (hbytes : (len + 1) * 16 ≤ 211106232532992)
    (h : ∀ q' c' w', Hid (Row w' q' (len + 1) c' (S ++ [t])) → Hid (w.grownBy w' (blockOf q)) → Hid (q' = q ∨ q' = some ⟨w.heap.size, 0, none⟩) → wpList Tryz.prog ops Q rest (a.put o.dst (.slice q' (len + 1) c')) w') : wpList Tryz.prog ops Q (o :: rest) a w := by
  obtain ⟨q', c', w', hr, h2, h3, h4⟩ := row_append w o.type q len cap S r b t hf h0 h1 hbytes
  refine wpList_plain hgd fun K hK => ?_
  unfold Oper.wp execOp
  simp only [ho, resolve, invoke, builtin, Sem.run_bind, Sem.run_pure, Result.andThen_ok, List.map_toArray, List.map_cons, List.map_nil, hs, hx, hr]
  exact hK _ _ (h q' c' w' h2 h3 h4)
/-- append of one tag, at a step of a region that draws. -/
theorem step_append_row {ops : Array Oper} {o : Oper} {a : Act} {K : Act → World → Prop} {Q : Exit → Act → World → Prop} {E : Prop} (w : World) (hgd : o.guard = none) (s x : Operand)
    (ho : o.op = .call { callee := .builtin .append, args := #[s, x], argTypes := #[79, 79] })
    (q : Option Addr) (len cap : Nat) (S : List (Int × Int)) (hs : a.eval s = .slice q len cap) (r : Row w q len cap S)
    (b : Nat) (t : Int × Int) (hf : Fit [t]) (hx : a.eval x = .slice (some ⟨b, 0, none⟩) 1 1) (h0 : w.cell? ⟨b, 0, none⟩ = some (.int .i64 t.1)) (h1 : w.cell? ⟨b, 1, none⟩ = some (.int .i64 t.2)) (hbytes : (len + 1) * 16 ≤ 211106232532992)
    (h : ∀ q' c' w', Hid (Row w' q' (len + 1) c' (S ++ [t])) → Hid (w.grownBy w' (blockOf q)) → Hid (q' = q ∨ q' = some ⟨w.heap.size, 0, none⟩) → K (a.put o.dst (.slice q' (len + 1) c')) w') : if Region.wanted o (yielded ops a.tmps) = true then Oper.wp Tryz.prog o a w K Q else E := by
  have hw : Region.wanted o (yielded ops a.tmps) = true := by simp [Region.wanted, hgd]
  rw [if_pos hw]
  obtain ⟨q', c', w', hr, h2, h3, h4⟩ := row_append w o.type q len cap S r b t hf h0 h1 hbytes
  unfold Oper.wp execOp
  simp only [ho, resolve, invoke, builtin, Sem.run_bind, Sem.run_pure, Result.andThen_ok, List.map_toArray, List.map_cons, List.map_nil, hs, hx, hr]
  exact h q' c' w' h2 h3 h4
end Go.Proofs.YtojepeefphbekabGreat

namespace Go.Proofs.YtojepeefphbekabGreat
open Go.RowKit

/-- A set: its block, and its list. -/
structure IsSet (ty : Nat) (w : World) (C : Nat) (q : Option Addr) (len cap : Nat) (R : List (Int × Int)) : Prop where
  blk : w.heap[C]? = some (.cells #[.slice q len cap] ty (0, 0))
  row : Row w q len cap R
  ne : ty ≠ 31
theorem IsSet.sv {ty : Nat} {w : World} {C : Nat} {q : Option Addr} {len cap : Nat} {R : List (Int × Int)} (h : IsSet ty w C q len cap R) : SV w C ty q len cap R := ⟨h.blk, h.row.reads⟩
theorem IsSet.by {ty : Nat} {w w' : World} {C : Nat} {q : Option Addr} {len cap : Nat} {R : List (Int × Int)} (h : IsSet ty w C q len cap R) (B : Below w.heap.size w w') : IsSet ty w' C q len cap R := ⟨(B.block C h.sv.lt).trans h.blk, h.row.by B, h.ne⟩
theorem IsSet.apart {ty : Nat} {w : World} {C : Nat} {q : Option Addr} {len cap : Nat} {R : List (Int × Int)} (h : IsSet ty w C q len cap R) : blockOf q ≠ some C := by
  rcases h.row.pos with ⟨rfl, _⟩ | ⟨g, off, cur, rfl, hg, _⟩
  · simp [blockOf]
  · intro e
    simp [blockOf] at e
    subst e
    rw [h.blk] at hg
    simp at hg
    exact h.ne hg.2
theorem IsSet.rowlt {ty : Nat} {w : World} {C : Nat} {q : Option Addr} {len cap : Nat} {R : List (Int × Int)} (h : IsSet ty w C q len cap R) : ∀ k, blockOf q = some k → k < w.heap.size := by
  intro k hk
  rcases h.row.pos with ⟨rfl, _⟩ | ⟨g, off, cur, rfl, hg, _⟩
  · simp [blockOf] at hk
  · simp [blockOf] at hk
    subst hk
    exact (Array.getElem?_eq_some_iff.1 hg).1
/-- Another list is laid into the set's block. -/
theorem IsSet.laid {ty : Nat} {w : World} {C : Nat} {q q' : Option Addr} {len cap len' cap' : Nat} {R' : List (Int × Int)} (hb : w.heap[C]? = some (.cells #[.slice q len cap] ty (0, 0))) (hn : ty ≠ 31) (r : Row w q' len' cap' R') : IsSet ty (w.setCell ⟨C, 0, none⟩ (.slice q' len' cap')) C q' len' cap' R' := by
  refine ⟨heap_set hb 0 _, ?_, hn⟩
  refine ⟨r.length, r.room, r.small, r.fit, ?_⟩
  rcases r.pos with e | ⟨g, off, cur, rfl, hg, hs, ht⟩
  · exact .inl e
  · refine .inr ⟨g, off, cur, rfl, ?_, hs, ht⟩
    rw [Below.heap_setCell w ⟨C, 0, none⟩ _ g (fun e => ?_)]
    · exact hg
    · have e : g = C := e
      subst e
      rw [hb] at hg
      simp at hg
      exact hn hg.2
/-- What changed: the set's own block and its own list's. -/
structure Moved (w w' : World) (C : Nat) (q q' : Option Addr) : Prop where
  kept : Kept (fun k => k = C ∨ blockOf q = some k) w w'
  near : ∀ k, blockOf q' = some k → blockOf q = some k ∨ w.heap.size ≤ k
theorem Moved.of_below {w w' : World} (B : Below w.heap.size w w') (C : Nat) (q : Option Addr) : Moved w w' C q q :=
  ⟨⟨B.os, B.tape, B.output, B.size, fun k hk _ => B.block k hk⟩, fun _ h => .inl h⟩
theorem Moved.appended {w w2 w3 w5 : World} {C : Nat} {q q5 : Option Addr} {v : Value} (B2 : Below w.heap.size w w2) (B3 : Below w2.heap.size w2 w3) (hg : w3.grownBy w5 (blockOf q)) (hn : q5 = q ∨ q5 = some ⟨w3.heap.size, 0, none⟩) : Moved w (w5.setCell ⟨C, 0, none⟩ v) C q q5 := by
  have B : Below w.heap.size w w3 := B2.trans (B3.mono B2.size)
  refine ⟨⟨hg.os.trans B.os, hg.tape.trans B.tape, hg.output.trans B.output, Nat.le_trans B.size (Nat.le_trans hg.size (by simp [World.setCell])), fun k hk hne => ?_⟩, fun k hk => ?_⟩
  · rw [Below.heap_setCell w5 ⟨C, 0, none⟩ v k (fun e => hne (.inl e))]
    exact (hg.block k (Nat.lt_of_lt_of_le hk B.size) (fun e => hne (.inr e.symm))).trans (B.block k hk)
  · rcases hn with rfl | rfl
    · exact .inl hk
    · simp [blockOf] at hk
      subst hk
      exact .inr B.size
/-- What Add makes of a list in no order. -/
def AddIs (R : List (Int × Int)) (x y : Int) (b : Bool) (e : Int) (R' : List (Int × Int)) : Prop :=
  (isProper x y = false ∧ b = false ∧ e = 41 ∧ R' = R) ∨ (isProper x y = true ∧ (x, y) ∈ R ∧ b = false ∧ e = 0 ∧ R' = R) ∨ (isProper x y = true ∧ (x, y) ∉ R ∧ b = true ∧ e = 0 ∧ R' = R ++ [(x, y)])
end Go.Proofs.YtojepeefphbekabGreat
