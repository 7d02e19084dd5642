import Derived.Test.YtojepeefphbekaaGreatRefFromJ
import Derived.Deep.AppendSrc
import Derived.Deep.AppendLies
import Derived.Deep.RegionLaw
namespace Go.Proofs.YtojepeefphbekaaGreat
open Go.RowKit

/-- A list of tags with room behind it, wherever in its block it begins. -/
structure Row (w : World) (a : Option Addr) (len cap : Nat) (S : List (Int × Int)) : Prop where
  length : S.length = len
  room : len ≤ cap
  small : cap ≤ maxLen
  fit : Fit S
  pos : (a = none ∧ cap = 0) ∨ ∃ g off cur, a = some ⟨g, off, none⟩ ∧ w.heap[g]? = some (.cells cur 37 (0, 0)) ∧ off + cap * 2 ≤ cur.size ∧ (cur.toList.drop off).take (len * 2) = tcells S
theorem Row.cell {w : World} {g off len : Nat} {S : List (Int × Int)} {cur : Array Value} (hg : w.heap[g]? = some (.cells cur 37 (0, 0))) (ht : (cur.toList.drop off).take (len * 2) = tcells S) (hl : S.length = len) (j : Nat) (u : Value) (h : (tcells S)[j]? = some u) : w.cell? ⟨g, off + j, none⟩ = some u := by
  have jl : j < len * 2 := by
    have := (List.getElem?_eq_some_iff.1 h).1
    rw [tcells_length] at this
    omega
  rw [← ht, List.getElem?_take_of_lt jl, List.getElem?_drop] at h
  rw [cell_of_row w g _ cur 37 (0, 0) hg]
  simpa using h
theorem Row.reads {w : World} {a : Option Addr} {len cap : Nat} {S : List (Int × Int)} (r : Row w a len cap S) : TReads w a len cap S := by
  refine ⟨r.length, r.room, r.small, r.fit, fun h0 => ?_⟩
  rcases r.pos with ⟨rfl, hc⟩ | ⟨g, off, cur, rfl, hg, hs, ht⟩
  · have := r.room; omega
  · refine ⟨g, off, rfl, fun i hi => ?_⟩
    obtain ⟨e0, e1⟩ := tcells_get S i (by rw [r.length]; exact hi)
    refine ⟨Row.cell hg ht r.length _ _ e0, ?_⟩
    have := Row.cell hg ht r.length _ _ e1
    rw [← Nat.add_assoc] at this
    exact this
theorem Row.of_owns {w : World} {base k : Nat} {a : Option Addr} {cap : Nat} {l : List (Int × Int)} (h : w.ownsRow base 37 2 (.slice a k cap) k (tcells l)) (hf : Fit l) : Row w a k cap l ∧ ∀ p, a = some p → base ≤ p.block := by
  have hl : l.length = k := by have := h.1; rw [tcells_length] at this; omega
  rcases h.2 with ⟨e, e0⟩ | ⟨g, cap', cur, e, hb, hg, hk, hm, hs, ht⟩
  · simp at e
    obtain ⟨rfl, _, rfl⟩ := e
    exact ⟨⟨hl, by omega, by unfold maxLen; omega, hf, .inl ⟨rfl, rfl⟩⟩, fun _ q => by cases q⟩
  · simp at e
    obtain ⟨rfl, rfl⟩ := e
    exact ⟨⟨hl, hk, hm, hf, .inr ⟨g, 0, cur, rfl, hg, by omega, by simpa using ht⟩⟩, fun p q => by cases q; exact hb⟩
theorem Row.kept {K : Nat → Prop} {w w' : World} {a : Option Addr} {len cap : Nat} {S : List (Int × Int)} (h : Kept K w w') (r : Row w a len cap S) (hn : ∀ p, a = some p → ¬ K p.block) : Row w' a len cap S := by
  refine ⟨r.length, r.room, r.small, r.fit, ?_⟩
  rcases r.pos with q | ⟨g, off, cur, rfl, hg, hs, ht⟩
  · exact .inl q
  · exact .inr ⟨g, off, cur, rfl, h.get hg (hn _ rfl), hs, ht⟩
theorem Row.by {w w' : World} {a : Option Addr} {len cap : Nat} {S : List (Int × Int)} (r : Row w a len cap S) (B : Below w.heap.size w w') : Row w' a len cap S := by
  refine ⟨r.length, r.room, r.small, r.fit, ?_⟩
  rcases r.pos with q | ⟨g, off, cur, rfl, hg, hs, ht⟩
  · exact .inl q
  · exact .inr ⟨g, off, cur, rfl, (B.block g (Array.getElem?_eq_some_iff.1 hg).1).trans hg, hs, ht⟩
theorem Row.lt {w : World} {g off len cap : Nat} {S : List (Int × Int)} (r : Row w (some ⟨g, off, none⟩) len cap S) : g < w.heap.size := by
  rcases r.pos with ⟨q, _⟩ | ⟨g', off', cur, e, hg, _⟩
  · cases q
  · simp at e
    obtain ⟨rfl, rfl⟩ := e
    exact (Array.getElem?_eq_some_iff.1 hg).1
def blockOf (a : Option Addr) : Option Nat := a.map (·.block)
/-- append of one tag onto such a list. -/
theorem row_append (w : World) (ty : TypeId) (a : Option Addr) (len cap : Nat) (S : List (Int × Int)) (r : Row w a len cap S) (b : Nat) (t : Int × Int) (hf : Fit [t])
    (h0 : w.cell? ⟨b, 0, none⟩ = some (.int .i64 t.1)) (h1 : w.cell? ⟨b, 1, none⟩ = some (.int .i64 t.2)) (hbytes : (len + 1) * 16 ≤ 211106232532992) :
    ∃ a' cap' w', (Builtin.append_ #[117, 117] ty #[.slice a len cap, .slice (some ⟨b, 0, none⟩) 1 1]).run Tryz.prog w = .ok (.slice a' (len + 1) cap') w' ∧ Row w' a' (len + 1) cap' (S ++ [t]) ∧ w.grownBy w' (blockOf a) ∧ (a' = a ∨ a' = some ⟨w.heap.size, 0, none⟩) := by
  obtain ⟨i, hi, hz, hsize, hby⟩ := info_parts Tryz.info37b
  have add0 : ∀ j, (⟨b, 0, none⟩ : Addr).add j = ⟨b, j, none⟩ := fun j => by unfold Addr.add; split <;> simp_all
  have addn : ∀ g o j, (⟨g, o, none⟩ : Addr).add j = ⟨g, o + j, none⟩ := fun g o j => by unfold Addr.add; split <;> simp_all
  have src : Src Tryz.prog 2 117 (.slice (some ⟨b, 0, none⟩) 1 1) 1 (tcells [t]) w := Src.ofSlice w Tryz.underlying117 ⟨b, 0, none⟩ 1 1 (tcells [t]) rfl (fun j u hj => by
    rw [add0]
    have : tcells [t] = [.int .i64 t.1, .int .i64 t.2] := rfl
    rw [this] at hj
    match j, hj with
    | 0, hj => simp at hj; subst hj; exact h0
    | 1, hj => simp at hj; subst hj; exact h1
    | j + 2, hj => simp at hj) (tcells_one _)
  have src' : Src Tryz.prog i.size 117 (.slice (some ⟨b, 0, none⟩) 1 1) 1 (tcells [t]) w := by rw [hsize]; exact src
  have hft : Fit (S ++ [t]) := fun x hx => by
    rcases List.mem_append.1 hx with m | m
    · exact r.fit x m
    · exact hf x m
  have hln : (S ++ [t]).length = len + 1 := by rw [List.length_append, r.length]; rfl
  have h63 : len + 1 ≤ maxLen := by unfold maxLen; omega
  have tl : (tcells S).length = len * 2 := by rw [tcells_length, r.length]
  have growrun : cap < len + 1 → (Builtin.firstCells i.size len (.slice a len cap)).run Tryz.prog w.drew = .ok (tcells S).toArray w.drew →
      ∃ a' cap' w', (Builtin.append_ #[117, 117] ty #[.slice a len cap, .slice (some ⟨b, 0, none⟩) 1 1]).run Tryz.prog w = .ok (.slice a' (len + 1) cap') w' ∧ Row w' a' (len + 1) cap' (S ++ [t]) ∧ w.grownBy w' (blockOf a) ∧ (a' = a ∨ a' = some ⟨w.heap.size, 0, none⟩) := by
    intro hc hold
    have hr := run_append_grow_src (P := Tryz.prog) w 117 117 ty 37 i (.agg #[.int .i64 0, .int .i64 0]) Tryz.underlying117 hi hz a len cap (tcells S) hold _ 1 (tcells [t]) src' hc (by omega) (growslice_fits_wide (by omega) (by rw [hby]; exact wide16 hbytes))
    have hge := grownCap_ge w (len + 1) cap 37
    have hcm : grownCap w (len + 1) cap 37 ≤ maxLen := grownCap_le_maxLen w (len + 1) cap 37 h63
    refine ⟨_, _, _, hr, ⟨hln, hge, hcm, hft, .inr ⟨w.heap.size, 0, _, rfl, heap_alloc_new w.drew _, ?_, ?_⟩⟩, ⟨rfl, rfl, rfl, by simp, fun k hk _ => _root_.Go.heap_alloc_old w.drew _ hk⟩, .inr rfl⟩
    · simp only [Array.size_append, List.size_toArray, size_zeroCells, List.length_append, tl]
      have t2 : (tcells [t]).length = 2 := rfl
      have z2 : (Value.agg #[.int .i64 0, .int .i64 0]).cells.size = 2 := rfl
      rw [z2, t2]
      omega
    · rw [List.drop_zero, tcells_append]
      simp only [Array.toList_append]
      have e : (len + 1) * 2 = (tcells S ++ tcells [t]).length := by
        rw [List.length_append, tl]
        have : (tcells [t]).length = 2 := rfl
        omega
      rw [e]
      exact List.take_left
  rcases r.pos with ⟨rfl, rfl⟩ | ⟨g, off, cur, rfl, hg, hs, ht⟩
  · have l0 : len = 0 := by have := r.room; omega
    subst l0
    have hS : S = [] := List.eq_nil_of_length_eq_zero r.length
    subst hS
    exact growrun (by omega) (run_firstCells_none w.drew i.size 0 0 0)
  · by_cases hroom : len + 1 ≤ cap
    · have hfit : off + len * i.size + (tcells [t]).length ≤ cur.size := by
        have : (tcells [t]).length = 2 := rfl
        rw [hsize]; omega
      have hst := run_storeCells_at Tryz.prog g (off + len * i.size) 37 (tcells [t]) 0 cur w hg (by simpa using hfit) (tcells_one _)
      simp only [Nat.add_zero] at hst
      have hr : (Builtin.append_ #[117, 117] ty #[.slice (some ⟨g, off, none⟩) len cap, .slice (some ⟨b, 0, none⟩) 1 1]).run Tryz.prog w =
          .ok (.slice (some ⟨g, off, none⟩) (len + 1) cap) (w.setRow g (cur.toList.take (off + len * i.size) ++ tcells [t] ++ cur.toList.drop (off + len * i.size + (tcells [t]).length)).toArray) := by
        rcases src'.kind with ⟨e', hk⟩ | hk <;> simp [Builtin.append_, run_underlying Tryz.underlying117, sizeOf, typeInfo, hi, src'.len, hroom, src'.cells, addn, hst]
      refine ⟨_, _, _, hr, ⟨hln, hroom, r.small, hft, .inr ⟨g, off, _, rfl, setRow_heap w g cur _ 37 _ hg, ?_, ?_⟩⟩, ⟨rfl, rfl, rfl, by simp, fun k _ hk => setRow_other w g k _ (fun e => hk (by simp [blockOf, e]))⟩, .inl rfl⟩
      · simp only [List.size_toArray, List.length_append, List.length_take, List.length_drop, Array.length_toList]
        have : (tcells [t]).length = 2 := rfl
        rw [hsize] at hfit ⊢
        omega
      · have e2 : (tcells [t]).length = 2 := rfl
        rw [hsize, tcells_append]
        simp only []
        have hcl : off + len * 2 ≤ cur.toList.length := by rw [Array.length_toList]; omega
        rw [List.append_assoc, List.drop_append_of_le_length (by rw [List.length_take]; omega), List.drop_take]
        have e3 : off + len * 2 - off = len * 2 := by omega
        rw [e3, ht, ← List.append_assoc]
        have e4 : (len + 1) * 2 = (tcells S ++ tcells [t]).length := by rw [List.length_append, tl, e2]; omega
        rw [e4]
        exact List.take_left
    · exact growrun (by omega) (run_firstCells_some w.drew i.size len ⟨g, off, none⟩ len cap (tcells S) (by rw [hsize]; exact tl) (fun j u hj => by rw [addn]; exact Row.cell hg ht r.length j u hj))
/-- append of one tag, at the operation. -/
theorem wpList_append_row {ops : Array Oper} {rest : List Oper} {o : Oper} {a : Act} {Q : Exit → Act → World → Prop} (w : World) (hgd : o.guard = none) (s x : Operand)
    (ho : o.op = .call { callee := .builtin .append, args := #[s, x], argTypes := #[117, 117] })
    (q : Option Addr) (len cap : Nat) (S : List (Int × Int)) (hs : a.eval s = .slice q len cap) (r : Row w q len cap S)
    (b : Nat) (t : Int × Int) (hf : Fit [t]) (hx : a.eval x = .slice (some ⟨b, 0, none⟩) 1 1) (h0 : w.cell? ⟨b, 0, none⟩ = some (.int .i64 t.1)) (h1 : w.cell? ⟨b, 1, none⟩ = some (.int .i64 t.2)) (hbytes : (len + 1) * 16 ≤ 211106232532992)
    (h : ∀ q' c' w', Hid (Row w' q' (len + 1) c' (S ++ [t])) → Hid (w.grownBy w' (blockOf q)) → Hid (q' = q ∨ q' = some ⟨w.heap.size, 0, none⟩) → wpList Tryz.prog ops Q rest (a.put o.dst (.slice q' (len + 1) c')) w') : wpList Tryz.prog ops Q (o :: rest) a w := by
  obtain ⟨q', c', w', hr, h2, h3, h4⟩ := row_append w o.type q len cap S r b t hf h0 h1 hbytes
  refine wpList_plain hgd fun K hK => ?_
  unfold Oper.wp execOp
  simp only [ho, resolve, invoke, builtin, Sem.run_bind, Sem.run_pure, Result.andThen_ok, List.map_toArray, List.map_cons, List.map_nil, hs, hx, hr]
  exact hK _ _ (h q' c' w' h2 h3 h4)
/-- append of one tag, at a step of a region that draws. -/
theorem step_append_row {ops : Array Oper} {o : Oper} {a : Act} {K : Act → World → Prop} {Q : Exit → Act → World → Prop} {E : Prop} (w : World) (hgd : o.guard = none) (s x : Operand)
    (ho : o.op = .call { callee := .builtin .append, args := #[s, x], argTypes := #[117, 117] })
    (q : Option Addr) (len cap : Nat) (S : List (Int × Int)) (hs : a.eval s = .slice q len cap) (r : Row w q len cap S)
    (b : Nat) (t : Int × Int) (hf : Fit [t]) (hx : a.eval x = .slice (some ⟨b, 0, none⟩) 1 1) (h0 : w.cell? ⟨b, 0, none⟩ = some (.int .i64 t.1)) (h1 : w.cell? ⟨b, 1, none⟩ = some (.int .i64 t.2)) (hbytes : (len + 1) * 16 ≤ 211106232532992)
    (h : ∀ q' c' w', Hid (Row w' q' (len + 1) c' (S ++ [t])) → Hid (w.grownBy w' (blockOf q)) → Hid (q' = q ∨ q' = some ⟨w.heap.size, 0, none⟩) → K (a.put o.dst (.slice q' (len + 1) c')) w') : if Region.wanted o (yielded ops a.tmps) = true then Oper.wp Tryz.prog o a w K Q else E := by
  have hw : Region.wanted o (yielded ops a.tmps) = true := by simp [Region.wanted, hgd]
  rw [if_pos hw]
  obtain ⟨q', c', w', hr, h2, h3, h4⟩ := row_append w o.type q len cap S r b t hf h0 h1 hbytes
  unfold Oper.wp execOp
  simp only [ho, resolve, invoke, builtin, Sem.run_bind, Sem.run_pure, Result.andThen_ok, List.map_toArray, List.map_cons, List.map_nil, hs, hx, hr]
  exact h q' c' w' h2 h3 h4
end Go.Proofs.YtojepeefphbekaaGreat

namespace Go.Proofs.YtojepeefphbekaaGreat
open Go.RowKit

/-- A set: its block, and its list. -/
structure IsSet (ty : Nat) (w : World) (C : Nat) (q : Option Addr) (len cap : Nat) (R : List (Int × Int)) : Prop where
  blk : w.heap[C]? = some (.cells #[.slice q len cap] ty (0, 0))
  row : Row w q len cap R
  ne : ty ≠ 37
theorem IsSet.sv {ty : Nat} {w : World} {C : Nat} {q : Option Addr} {len cap : Nat} {R : List (Int × Int)} (h : IsSet ty w C q len cap R) : SV w C ty q len cap R := ⟨h.blk, h.row.reads⟩
theorem IsSet.by {ty : Nat} {w w' : World} {C : Nat} {q : Option Addr} {len cap : Nat} {R : List (Int × Int)} (h : IsSet ty w C q len cap R) (B : Below w.heap.size w w') : IsSet ty w' C q len cap R := ⟨(B.block C h.sv.lt).trans h.blk, h.row.by B, h.ne⟩
theorem IsSet.apart {ty : Nat} {w : World} {C : Nat} {q : Option Addr} {len cap : Nat} {R : List (Int × Int)} (h : IsSet ty w C q len cap R) : blockOf q ≠ some C := by
  rcases h.row.pos with ⟨rfl, _⟩ | ⟨g, off, cur, rfl, hg, _⟩
  · simp [blockOf]
  · intro e
    simp [blockOf] at e
    subst e
    rw [h.blk] at hg
    simp at hg
    exact h.ne hg.2
theorem IsSet.rowlt {ty : Nat} {w : World} {C : Nat} {q : Option Addr} {len cap : Nat} {R : List (Int × Int)} (h : IsSet ty w C q len cap R) : ∀ k, blockOf q = some k → k < w.heap.size := by
  intro k hk
  rcases h.row.pos with ⟨rfl, _⟩ | ⟨g, off, cur, rfl, hg, _⟩
  · simp [blockOf] at hk
  · simp [blockOf] at hk
    subst hk
    exact (Array.getElem?_eq_some_iff.1 hg).1
/-- Another list is laid into the set's block. -/
theorem IsSet.laid {ty : Nat} {w : World} {C : Nat} {q q' : Option Addr} {len cap len' cap' : Nat} {R' : List (Int × Int)} (hb : w.heap[C]? = some (.cells #[.slice q len cap] ty (0, 0))) (hn : ty ≠ 37) (r : Row w q' len' cap' R') : IsSet ty (w.setCell ⟨C, 0, none⟩ (.slice q' len' cap')) C q' len' cap' R' := by
  refine ⟨heap_set hb 0 _, ?_, hn⟩
  refine ⟨r.length, r.room, r.small, r.fit, ?_⟩
  rcases r.pos with e | ⟨g, off, cur, rfl, hg, hs, ht⟩
  · exact .inl e
  · refine .inr ⟨g, off, cur, rfl, ?_, hs, ht⟩
    rw [Below.heap_setCell w ⟨C, 0, none⟩ _ g (fun e => ?_)]
    · exact hg
    · have e : g = C := e
      subst e
      rw [hb] at hg
      simp at hg
      exact hn hg.2
/-- What changed: the set's own block and its own list's. -/
structure Moved (w w' : World) (C : Nat) (q q' : Option Addr) : Prop where
  kept : Kept (fun k => k = C ∨ blockOf q = some k) w w'
  near : ∀ k, blockOf q' = some k → blockOf q = some k ∨ w.heap.size ≤ k
theorem Moved.of_below {w w' : World} (B : Below w.heap.size w w') (C : Nat) (q : Option Addr) : Moved w w' C q q :=
  ⟨⟨B.os, B.tape, B.output, B.size, fun k hk _ => B.block k hk⟩, fun _ h => .inl h⟩
theorem Moved.appended {w w2 w3 w5 : World} {C : Nat} {q q5 : Option Addr} {v : Value} (B2 : Below w.heap.size w w2) (B3 : Below w2.heap.size w2 w3) (hg : w3.grownBy w5 (blockOf q)) (hn : q5 = q ∨ q5 = some ⟨w3.heap.size, 0, none⟩) : Moved w (w5.setCell ⟨C, 0, none⟩ v) C q q5 := by
  have B : Below w.heap.size w w3 := B2.trans (B3.mono B2.size)
  refine ⟨⟨hg.os.trans B.os, hg.tape.trans B.tape, hg.output.trans B.output, Nat.le_trans B.size (Nat.le_trans hg.size (by simp [World.setCell])), fun k hk hne => ?_⟩, fun k hk => ?_⟩
  · rw [Below.heap_setCell w5 ⟨C, 0, none⟩ v k (fun e => hne (.inl e))]
    exact (hg.block k (Nat.lt_of_lt_of_le hk B.size) (fun e => hne (.inr e.symm))).trans (B.block k hk)
  · rcases hn with rfl | rfl
    · exact .inl hk
    · simp [blockOf] at hk
      subst hk
      exact .inr B.size
/-- What Add makes of a list in no order. -/
def AddIs (R : List (Int × Int)) (x y : Int) (b : Bool) (e : Int) (R' : List (Int × Int)) : Prop :=
  (isProper x y = false ∧ b = false ∧ e = 41 ∧ R' = R) ∨ (isProper x y = true ∧ (x, y) ∈ R ∧ b = false ∧ e = 0 ∧ R' = R) ∨ (isProper x y = true ∧ (x, y) ∉ R ∧ b = true ∧ e = 0 ∧ R' = R ++ [(x, y)])
end Go.Proofs.YtojepeefphbekaaGreat

namespace Go.Proofs.YtojepeefphbekaaGreat
open Go.RowKit

/-- The closure over the tag that is looked for. -/
structure Clo (w : World) (P2 P3 B : Nat) (q : Option Addr) (len cap : Nat) (S : List (Int × Int)) (x y : Int) : Prop where
  p : w.heap[P2]? = some (.cells #[.pointer (some ⟨B, 0, none⟩)] 87 (0, 0))
  t : TagAt w P3 x y
  s : SV w B 142 q len cap S
theorem Clo.by {w w' : World} {P2 P3 B : Nat} {q : Option Addr} {len cap : Nat} {S : List (Int × Int)} {x y : Int} (h : Clo w P2 P3 B q len cap S x y) (b : Below w.heap.size w w') : Clo w' P2 P3 B q len cap S x y :=
  ⟨(b.block P2 (Array.getElem?_eq_some_iff.1 h.p).1).trans h.p, h.t.by b, h.s.by b⟩
theorem Clo.cell {w : World} {P2 P3 B : Nat} {q : Option Addr} {len cap : Nat} {S : List (Int × Int)} {x y : Int} (h : Clo w P2 P3 B q len cap S x y) : w.cell? ⟨P2, 0, none⟩ = some (.pointer (some ⟨B, 0, none⟩)) ∧ P2 < w.heap.size := by
  refine ⟨?_, (Array.getElem?_eq_some_iff.1 h.p).1⟩
  rw [cell_of_row w P2 0 _ 87 (0, 0) h.p]; rfl
set_option maxRecDepth 100000 in
theorem closure (P2 P3 B : Nat) (q : Option Addr) (len cap : Nat) (S : List (Int × Int)) (x y : Int) (i : Nat) (w : World) (h : Clo w P2 P3 B q len cap S x y) (hi : i < len) :
    Calls Tryz.prog 114 #[.int .i64 (i : Int), .pointer (some ⟨P2, 0, none⟩), .pointer (some ⟨P3, 0, none⟩)] w fun o w' => o = .returned (.bool (decide (0 ≤ tc (S.getD i (0, 0)) (x, y)))) ∧ Below w.heap.size w w' := by
  obtain ⟨hl, hr, hs⟩ := h.s.nums
  obtain ⟨b, off, rfl, hc⟩ := h.s.r.cells (by omega)
  obtain ⟨e0, e1⟩ := hc i hi
  obtain ⟨⟨u, v⟩, huv⟩ : ∃ t, S.getD i (0, 0) = t := ⟨_, rfl⟩
  rw [huv] at e0 e1 ⊢
  have lb : b < w.heap.size := World.block_lt_of_cell? w _ e0
  obtain ⟨p0, lp⟩ := h.cell
  have sc := h.s.cell
  have ls := h.s.lt
  obtain ⟨t0, t1, _, _⟩ := h.t.facts
  have lt := h.t.lt
  have i1 : (i : Int) < (len : Int) := by omega
  show Calls Tryz.prog 114 _ w fun o w' => o = .returned (.bool (decide (0 ≤ tcmp u v x y))) ∧ Below w.heap.size w w'
  have KP : Hid (∀ w2, Below w.drew.heap.size w.drew w2 → (w2.cell? ⟨P2, 0, none⟩ = some (.pointer (some ⟨B, 0, none⟩)) ∧ w2.cell? ⟨B, 0, none⟩ = some (.slice (some ⟨b, off, none⟩) len cap) ∧ w2.cell? ⟨b, off + i * 2, none⟩ = some (.int .i64 u) ∧ w2.cell? ⟨b, off + i * 2 + 1, none⟩ = some (.int .i64 v) ∧ w2.cell? ⟨P3, 0, none⟩ = some (.int .i64 x) ∧ w2.cell? ⟨P3, 1, none⟩ = some (.int .i64 y)) ∧ Below w.heap.size w w2) :=
    fun w2 B2 => ⟨⟨(B2.cell lp).trans p0, (B2.cell ls).trans sc, (B2.cell lb).trans e0, (B2.cell lb).trans e1, (B2.cell lt).trans t0, (B2.cell lt).trans t1⟩, ((Below.refl _ _).drew).trans B2⟩
  clear hc huv h
  go_enter Tryz.func114, Tryz.ntmps114
  go_upto_region 1 with fail
  go_region_held3 (fun w' => w'.cell? ⟨P2, 0, none⟩ = some (.pointer (some ⟨B, 0, none⟩)) ∧ w'.cell? ⟨B, 0, none⟩ = some (.slice (some ⟨b, off, none⟩) len cap) ∧ w'.cell? ⟨b, off + i * 2, none⟩ = some (.int .i64 u) ∧ w'.cell? ⟨b, off + i * 2 + 1, none⟩ = some (.int .i64 v) ∧ w'.cell? ⟨P3, 0, none⟩ = some (.int .i64 x) ∧ w'.cell? ⟨P3, 1, none⟩ = some (.int .i64 y)) (go_keep)
    (first | (go_at_call 65; refine (compare u v x y _).mono ?_; rintro e w2 ⟨rfl, B2⟩; obtain ⟨⟨q0, q1, q2, q3, q4, q5⟩, SS⟩ := KP.out w2 B2; have SH : Hid (Below w.heap.size w w2) := SS; clear SS B2) | fail)
  go_wp2_with fail
  go_ret
  exact ⟨by simp, SH.out⟩
theorem mid_eq (i j : Nat) (h : i + j < 2 ^ 63) : wrap64 (IntKind.u64.wrap (wrap64 ((i : Int) + (j : Int))) / 2) = (((i + j) / 2 : Nat) : Int) := by
  have e : wrap64 ((i : Int) + (j : Int)) = ((i + j : Nat) : Int) := by unfold wrap64; omega
  rw [e]
  have e2 : IntKind.u64.wrap ((i + j : Nat) : Int) = ((i + j : Nat) : Int) := by
    rw [show IntKind.u64.wrap ((i + j : Nat) : Int) = ((i + j : Nat) : Int) % 18446744073709551616 by simp [IntKind.wrap, IntKind.bits, IntKind.signed]]; omega
  rw [e2]; unfold wrap64; omega
theorem alloc_size (w : World) (o : Obj) : (w.alloc o).heap.size = w.heap.size + 1 := Array.size_push ..
theorem getD_eq (S : List (Int × Int)) (k : Nat) (h : k < S.length) : S.getD k (0, 0) = S[k] := by simp [List.getD, h]
set_option maxRecDepth 100000 in
set_option maxHeartbeats 1000000 in
theorem search (P2 P3 B : Nat) (q : Option Addr) (len cap : Nat) (S : List (Int × Int)) (x y : Int) (w : World) (h : Clo w P2 P3 B q len cap S x y) (hS : Rising S) (hb : len * 16 ≤ 211106232532992) :
    Calls Tryz.prog 113 #[.int .i64 (len : Int), .func (.func 114) #[] #[.pointer (some ⟨P2, 0, none⟩), .pointer (some ⟨P3, 0, none⟩)]] w fun o w' => o = .returned (.int .i64 ((ahead S (x, y) : Nat) : Int)) ∧ Below w.heap.size w w' := by
  obtain ⟨hl, hr, hs⟩ := h.s.nums
  have HH : Hid (Clo w P2 P3 B q len cap S x y ∧ Rising S) := ⟨h, hS⟩
  clear h hS
  go_enter Tryz.func113, Tryz.ntmps113
  go_wp2_with fail
  go_loopw [5, 6, 7] (fun a b _ wr => ∃ (i j : Nat), a = .int .i64 (i : Int) ∧ b = .int .i64 (j : Int) ∧ i ≤ j ∧ j ≤ len ∧ Hid ((∀ k (_ : k < S.length), k < i → tc S[k] (x, y) < 0) ∧ (∀ k (_ : k < S.length), j ≤ k → ¬ tc S[k] (x, y) < 0) ∧ Below w.heap.size w wr)) (fun a b _ _ => (intOf b).toNat - (intOf a).toNat)
  case atStart => exact ⟨0, len, rfl, rfl, Nat.zero_le _, Nat.le_refl _, fun _ _ q => absurd q (by omega), fun _ _ q => absurd q (by omega), Below.refl _ _⟩
  case round =>
    obtain ⟨i, j, rfl, rfl, hij, hj, H⟩ := hrel
    by_cases hlt : i < j
    · have i1 : (i : Int) < (j : Int) := by omega
      obtain ⟨m, hm0⟩ : ∃ m, m = (i + j) / 2 := ⟨_, rfl⟩
      have hm := mid_eq i j (by omega)
      rw [← hm0] at hm
      have m1 : wrap64 ((m : Int) + 1) = ((m + 1 : Nat) : Int) := by unfold wrap64; omega
      have hmt : (m : Int).toNat = m := by omega
      have hmt1 : ((m + 1 : Nat) : Int).toNat = m + 1 := by omega
      have hml : m < len := by omega
      go_wp2_with fail
      rw [show ((i : Int) + (j : Int)) / 2 = (m : Int) by omega]
      refine (closure P2 P3 B q len cap S x y m _ ?_ hml).mono ?_
      · exact (HH.out.1.by (H.out.2.2))
      rintro e w2 ⟨rfl, B2⟩
      have HB : Hid (Below w.heap.size w w2) := H.out.2.2.trans (B2.mono H.out.2.2.size)
      clear B2
      by_cases hd : 0 ≤ tc (S.getD m (0, 0)) (x, y)
      · have hd' : decide (0 ≤ tc (S.getD m (0, 0)) (x, y)) = true := by simpa using hd
        rw [hd']
        go_wp2_with fail
        refine ⟨?_, ?_⟩
        · refine ⟨i, m, rfl, congrArg (Value.int .i64) (by omega), by omega, by omega, H.out.1, ?_, HB.out⟩
          intro k hk hmk
          rw [getD_eq S m (by omega)] at hd
          rcases Nat.lt_or_eq_of_le hmk with g | rfl
          · intro hc
            have := rising_get S HH.out.2 m k (by omega) hk g
            have := tc_trans _ _ _ this hc
            omega
          · omega
        · simp only [intOf]; omega
      · have hd' : decide (0 ≤ tc (S.getD m (0, 0)) (x, y)) = false := by simpa using hd
        rw [hd']
        go_wp2_with fail
        refine ⟨?_, ?_⟩
        · refine ⟨m + 1, j, congrArg (Value.int .i64) (by omega), rfl, by omega, by omega, ?_, fun k hk hh => by have := H.out.2.1 k hk hh; omega, HB.out⟩
          intro k hk hmk
          rw [getD_eq S m (by omega)] at hd
          rcases Nat.lt_or_eq_of_le (Nat.le_of_lt_succ hmk) with g | rfl
          · exact tc_trans _ _ _ (rising_get S HH.out.2 k m hk (by omega) g) (by omega)
          · omega
        · simp only [intOf]; omega
    · have i1 : ¬ (i : Int) < (j : Int) := by omega
      go_wp2_with fail
      go_ret
      obtain rfl : i = j := by omega
      refine ⟨?_, H.out.2.2⟩
      rw [ahead_unique S (x, y) HH.out.2 i (by omega) H.out.1 (fun k hk hh => by have := H.out.2.1 k hk hh; omega)]
      rfl
set_option maxRecDepth 100000 in
set_option maxHeartbeats 1000000 in
/-- place: how many of the set's tags lie under a tag. -/
theorem place (B : Nat) (q : Option Addr) (len cap : Nat) (S : List (Int × Int)) (x y : Int) (w : World) (h : SV w B 142 q len cap S) (hS : Rising S) (hb : len * 16 ≤ 211106232532992) :
    Calls Tryz.prog 88 #[.pointer (some ⟨B, 0, none⟩), .agg #[.int .i64 x, .int .i64 y]] w fun o w' => o = .returned (.int .i64 ((ahead S (x, y) : Nat) : Int)) ∧ Below w.heap.size w w' := by
  have sc := h.cell
  have ls := h.lt
  obtain ⟨hl, hr, hs⟩ := h.nums
  have HH : Hid (SV w B 142 q len cap S ∧ Rising S) := ⟨h, hS⟩
  clear h hS
  go_enter Tryz.func88, Tryz.ntmps88
  go_wp2_with fail
  have B1 : Below w.heap.size w ((w.alloc (Obj.cells #[.pointer (some ⟨B, 0, none⟩)] 87)).alloc (Obj.cells #[.int .i64 x, .int .i64 y] 37)) :=
    ((Below.refl w.heap.size w).alloc (Nat.le_refl _) _).alloc (by rw [alloc_size]; omega) _
  refine (search w.heap.size (w.heap.size + 1) B q len cap S x y _ ⟨?_, ?_, HH.out.1.by B1⟩ HH.out.2 hb).mono ?_
  · exact (Below.heap_alloc _ _ _ (by rw [alloc_size]; omega)).trans (heap_alloc_new w _)
  · have := TagAt.new (w.alloc (Obj.cells #[.pointer (some ⟨B, 0, none⟩)] 87)) x y
    rw [alloc_size] at this
    exact this
  rintro e w2 ⟨rfl, B2⟩
  have BH : Hid (Below w.heap.size w w2) := B1.trans (B2.mono B1.size)
  clear B1 B2
  go_wp2_with fail
  go_ret
  exact ⟨rfl, BH.out⟩
set_option maxRecDepth 100000 in
set_option maxHeartbeats 1000000 in
/-- at: whether the tag stands at a place. -/
theorem sAt (B : Nat) (q : Option Addr) (len cap : Nat) (S : List (Int × Int)) (x y : Int) (k : Nat) (w : World) (h : SV w B 142 q len cap S) (hk : k ≤ len) (hb : len * 16 ≤ 211106232532992) :
    Calls Tryz.prog 105 #[.pointer (some ⟨B, 0, none⟩), .int .i64 (k : Int), .agg #[.int .i64 x, .int .i64 y]] w fun o w' => o = .returned (.bool (decide (S[k]? = some (x, y)))) ∧ Below w.heap.size w w' := by
  have sc := h.cell
  have ls := h.lt
  obtain ⟨hl, hr, hs⟩ := h.nums
  have B1 : Below w.heap.size w (w.alloc (Obj.cells #[.int .i64 x, .int .i64 y] 37)) := (Below.refl w.heap.size w).alloc (Nat.le_refl _) _
  have BH : Hid (∀ n, Below w.heap.size w ((w.alloc (Obj.cells #[.int .i64 x, .int .i64 y] 37)).drewN n)) := fun n => below_dN B1 n
  by_cases hlt : k < len
  · obtain ⟨b, off, rfl, hc⟩ := h.r.cells (by omega)
    obtain ⟨e0, e1⟩ := hc k hlt
    obtain ⟨⟨u, v⟩, huv⟩ : ∃ t, S.getD k (0, 0) = t := ⟨_, rfl⟩
    rw [huv] at e0 e1
    have lb : b < w.heap.size := World.block_lt_of_cell? w _ e0
    have hg : S[k]? = some (u, v) := by rw [List.getElem?_eq_getElem (by omega), ← getD_eq S k (by omega), huv]
    rw [hg]
    have i1 : (k : Int) < (len : Int) := by omega
    clear hc h huv B1 hg
    by_cases h1 : u = x
    · by_cases h2 : v = y
      · subst h1 h2
        have fin : Hid (decide ((some (u, v) : Option (Int × Int)) = some (u, v)) = true) := decide_eq_true rfl
        go_enter Tryz.func105, Tryz.ntmps105
        go_wp2_with fail
        go_quiet (fail)
        go_wp2_with fail
        go_ret
        exact ⟨by rw [fin.out]; rfl, BH.out _⟩
      · subst h1
        have fin : Hid (decide ((some (u, v) : Option (Int × Int)) = some (u, y)) = false) := decide_eq_false (by simpa using h2)
        go_enter Tryz.func105, Tryz.ntmps105
        go_wp2_with fail
        go_quiet (fail)
        go_wp2_with fail
        go_ret
        exact ⟨by rw [fin.out]; rfl, BH.out _⟩
    · have fin : Hid (decide ((some (u, v) : Option (Int × Int)) = some (x, y)) = false) := decide_eq_false (by intro e; apply h1; simp at e; exact e.1)
      go_enter Tryz.func105, Tryz.ntmps105
      go_wp2_with fail
      go_quiet (fail)
      go_wp2_with fail
      go_ret
      exact ⟨by rw [fin.out]; rfl, BH.out _⟩
  · obtain rfl : k = len := by omega
    have hg : S[k]? = none := by rw [List.getElem?_eq_none]; omega
    have fin : Hid (decide (S[k]? = some (x, y)) = false) := decide_eq_false (by rw [hg]; simp)
    clear h B1 hg
    go_enter Tryz.func105, Tryz.ntmps105
    go_wp2_with fail
    go_quiet (fail)
    go_wp2_with fail
    go_ret
    exact ⟨by rw [fin.out]; rfl, BH.out _⟩
end Go.Proofs.YtojepeefphbekaaGreat

namespace Go.Proofs.YtojepeefphbekaaGreat
open Go.RowKit

theorem fit_perm {R S : List (Int × Int)} (h : Fit R) (p : R.Perm S) : Fit S := fun t ht => h t (p.symm.subset ht)
theorem fit_drop {S : List (Int × Int)} (h : Fit S) (k : Nat) : Fit (S.drop k) := fun t ht => h t (List.mem_of_mem_drop ht)
/-- All that is the set's lies from N on. -/
def From (N : Nat) (q : Option Addr) : Prop := ∀ k, blockOf q = some k → N ≤ k
theorem Moved.below {N : Nat} {w0 w w' : World} {C : Nat} {q q' : Option Addr} (B : Below N w0 w) (h : Moved w w' C q q') (hN : N ≤ w.heap.size) (hC : N ≤ C) (hq : From N q) : Below N w0 w' ∧ From N q' := by
  refine ⟨⟨h.kept.os.trans B.os, h.kept.tape.trans B.tape, h.kept.output.trans B.output, Nat.le_trans B.size h.kept.size, fun k hk => ?_⟩, fun k hk => ?_⟩
  · refine (h.kept.block k (by omega) (fun e => ?_)).trans (B.block k hk)
    rcases e with rfl | e
    · omega
    · have := hq k e; omega
  · rcases h.near k hk with e | e
    · exact hq k e
    · omega
/-- The document's list of some tags. -/
def addR (R : List (Int × Int)) (t : Int × Int) : List (Int × Int) := if t ∈ R then R else R ++ [t]
def newR (l : List (Int × Int)) : List (Int × Int) := l.foldl addR []
theorem newR_take (l : List (Int × Int)) (i : Nat) (h : i < l.length) : newR (l.take (i + 1)) = addR (newR (l.take i)) (l.getD i (0, 0)) := by
  rw [List.take_succ_eq_append_getElem h, getD_at l i h]
  unfold newR
  rw [List.foldl_append]
  rfl
theorem addR_length (R : List (Int × Int)) (t : Int × Int) : (addR R t).length ≤ R.length + 1 := by
  unfold addR
  split <;> simp
theorem newR_length (l : List (Int × Int)) (i : Nat) : (newR (l.take i)).length ≤ i := by
  induction i with
  | zero => simp [newR]
  | succ i ih =>
    by_cases h : i < l.length
    · rw [newR_take l i h]
      have := addR_length (newR (l.take i)) (l.getD i (0, 0))
      omega
    · rw [List.take_of_length_le (by omega)]
      rw [List.take_of_length_le (by omega)] at ih
      omega
/-- What the document's NewSet answers. -/
def NewR (w : World) (l : List (Int × Int)) (o : Ending) (w' : World) : Prop := ((∀ t ∈ l, isProper t.1 t.2 = true) ∧ ∃ q m c, o = .returned (.tuple #[.pointer (some ⟨w.heap.size, 0, none⟩), .int .i64 0]) ∧ IsSet 65 w' w.heap.size q m c (newR l) ∧ From w.heap.size q ∧ Below w.heap.size w w') ∨ ((∃ t ∈ l, isProper t.1 t.2 = false) ∧ o = .returned (.tuple #[.pointer none, .int .i64 41]) ∧ Below w.heap.size w w')
end Go.Proofs.YtojepeefphbekaaGreat
