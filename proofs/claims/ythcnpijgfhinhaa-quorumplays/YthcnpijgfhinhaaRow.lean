import Derived.Test.YthcnpijgfhinhaaTaken
import Derived.Deep.AppendSrc
import Derived.Deep.AppendLies
namespace Go.Proofs.Ythcnpijgfhinhaa
open Go.RowKit

def blockOf (a : Option Addr) : Option Nat := a.map (·.block)
/-- A list of one-cell elements with room behind it, at its block's beginning. -/
structure Row (w : World) (e : TypeId) (a : Option Addr) (len cap : Nat) (xs : List Value) : Prop where
  length : xs.length = len
  room : len ≤ cap
  small : cap ≤ maxLen
  one : ∀ u ∈ xs, u.oneCell' = true
  pos : (a = none ∧ cap = 0) ∨ ∃ g cur, a = some ⟨g, 0, none⟩ ∧ w.heap[g]? = some (.cells cur e (0, 0)) ∧ cap ≤ cur.size ∧ cur.toList.take len = xs
theorem Row.cell {w : World} {e : TypeId} {g cap len : Nat} {xs : List Value} (r : Row w e (some ⟨g, 0, none⟩) len cap xs) (i : Nat) (u : Value) (h : xs[i]? = some u) : w.cell? ⟨g, i, none⟩ = some u := by
  rcases r.pos with ⟨q, _⟩ | ⟨g', cur, q, hg, hs, ht⟩
  · cases q
  · simp at q
    subst q
    have il : i < len := by have := (List.getElem?_eq_some_iff.1 h).1; rw [r.length] at this; exact this
    rw [← ht, List.getElem?_take_of_lt il] at h
    rw [cell_of_row w g _ cur e (0, 0) hg]
    simpa using h
theorem Row.soft {w : World} {e : TypeId} {g cap len : Nat} {xs : List Value} (r : Row w e (some ⟨g, 0, none⟩) len cap xs) (i : Nat) : w.frozen? ⟨g, i, none⟩ = false := by
  rcases r.pos with ⟨q, _⟩ | ⟨g', cur, q, hg, hs, ht⟩
  · cases q
  · simp at q
    subst q
    exact soft_blk hg i
theorem Row.nil (w : World) (e : TypeId) : Row w e none 0 0 [] := ⟨rfl, Nat.le_refl _, by unfold maxLen; omega, fun _ h => absurd h (by simp), .inl ⟨rfl, rfl⟩⟩
theorem Row.some_of {w : World} {e : TypeId} {a : Option Addr} {len cap : Nat} {xs : List Value} (r : Row w e a len cap xs) (h : 0 < len) : ∃ g, a = some ⟨g, 0, none⟩ := by
  rcases r.pos with ⟨q, _⟩ | ⟨g', cur, q, hg, hs, ht⟩
  · have := r.room; omega
  · exact ⟨g', q⟩
theorem Row.blk {w : World} {e : TypeId} {a : Option Addr} {len cap : Nat} {xs : List Value} (r : Row w e a len cap xs) {g : Nat} (h : blockOf a = some g) : ∃ cur, w.heap[g]? = some (.cells cur e (0, 0)) := by
  rcases r.pos with ⟨q, _⟩ | ⟨g', cur, q, hg, hs, ht⟩
  · subst q; simp [blockOf] at h
  · subst q; simp [blockOf] at h; subst h; exact ⟨cur, hg⟩
theorem Row.lt {w : World} {e : TypeId} {a : Option Addr} {len cap : Nat} {xs : List Value} (r : Row w e a len cap xs) {g : Nat} (h : blockOf a = some g) : g < w.heap.size := by
  obtain ⟨cur, hg⟩ := r.blk h; exact block_lt hg
theorem Row.kept {S : Nat → Prop} {w w' : World} {e : TypeId} {a : Option Addr} {len cap : Nat} {xs : List Value} (r : Row w e a len cap xs) (k : Kept S w w') (hn : ∀ g, blockOf a = some g → ¬ S g) : Row w' e a len cap xs := by
  refine ⟨r.length, r.room, r.small, r.one, ?_⟩
  rcases r.pos with q | ⟨g, cur, rfl, hg, hs, ht⟩
  · exact .inl q
  · exact .inr ⟨g, cur, rfl, k.get hg (hn g rfl), hs, ht⟩
theorem Row.by {w w' : World} {e : TypeId} {a : Option Addr} {len cap : Nat} {xs : List Value} (r : Row w e a len cap xs) (B : Below w.heap.size w w') : Row w' e a len cap xs :=
  r.kept (Kept.of_below B) (fun g h => by have := r.lt h; omega)
theorem Row.of_owns {w : World} {e : TypeId} {base k : Nat} {v : Value} {xs : List Value} (h : w.ownsRow base e 1 v k xs) (h1 : ∀ u ∈ xs, u.oneCell' = true) : ∃ a cap, v = .slice a k cap ∧ Row w e a k cap xs ∧ ∀ g, blockOf a = some g → base ≤ g := by
  have hl : xs.length = k := by have := h.1; omega
  rcases h.2 with ⟨rfl, rfl⟩ | ⟨g, cap, cur, rfl, hb, hg, hk, hm, hs, ht⟩
  · exact ⟨none, 0, rfl, ⟨hl, Nat.le_refl _, by unfold maxLen; omega, h1, .inl ⟨rfl, rfl⟩⟩, fun _ q => by simp [blockOf] at q⟩
  · exact ⟨_, cap, rfl, ⟨hl, hk, hm, h1, .inr ⟨g, cur, rfl, hg, by omega, by simpa using ht⟩⟩, fun g' q => by simp [blockOf] at q; subst q; exact hb⟩
theorem ints_one (l : List Int) : ∀ u ∈ ints l, u.oneCell' = true := fun u hu => by
  unfold ints at hu
  obtain ⟨x, _, rfl⟩ := List.mem_map.1 hu
  rfl
theorem ints_length (l : List Int) : (ints l).length = l.length := by unfold ints; rw [List.length_map]
theorem Row.ireads {w : World} {a : Option Addr} {len cap : Nat} {l : List Int} (r : Row w 3 a len cap (ints l)) : IReads w a len cap l := by
  have hl : l.length = len := by have := r.length; rw [ints_length] at this; exact this
  refine ⟨hl, r.room, r.small, fun h0 => ?_⟩
  obtain ⟨g, rfl⟩ := r.some_of h0
  refine ⟨g, 0, rfl, fun i hi => ?_⟩
  rw [Nat.zero_add]
  exact r.cell i _ (ints_get l i (by omega))
/-- A place in the list is written over. -/
theorem Row.store {w : World} {e : TypeId} {g cap len : Nat} {xs : List Value} (r : Row w e (some ⟨g, 0, none⟩) len cap xs) (i : Nat) (u : Value) (hu : u.oneCell' = true) : Row (w.setCell ⟨g, i, none⟩ u) e (some ⟨g, 0, none⟩) len cap (xs.set i u) := by
  rcases r.pos with ⟨q, _⟩ | ⟨g', cur, q, hg, hs, ht⟩
  · cases q
  · simp at q
    subst q
    refine ⟨by rw [List.length_set]; exact r.length, r.room, r.small, fun y hy => ?_, .inr ⟨g, _, rfl, heap_set hg i u, by simpa using hs, ?_⟩⟩
    · rcases List.mem_or_eq_of_mem_set hy with q | q
      · exact r.one y q
      · rw [q]; exact hu
    · rw [Array.toList_setIfInBounds, List.take_set, ht]
/-- append of one element onto such a list. -/
theorem row_append (w : World) (ty t e : TypeId) (z : Value) (ht : Try.prog.underlying t = some (.slice e)) (hinfo : (Try.prog.info? e).map (fun i => (i.zero, i.size, i.bytes)) = some (some z, 1, 8)) (hz1 : z.cells.size = 1)
    (a : Option Addr) (len cap : Nat) (xs : List Value) (r : Row w e a len cap xs) (b : Nat) (u : Value) (hu : u.oneCell' = true)
    (h0 : w.cell? ⟨b, 0, none⟩ = some u) (hbytes : (len + 1) * 8 ≤ 140737488355328) :
    ∃ a' cap' w', (Builtin.append_ #[t, t] ty #[.slice a len cap, .slice (some ⟨b, 0, none⟩) 1 1]).run Try.prog w = .ok (.slice a' (len + 1) cap') w' ∧ Row w' e a' (len + 1) cap' (xs ++ [u]) ∧ w.grownBy w' (blockOf a) ∧ (a' = a ∨ a' = some ⟨w.heap.size, 0, none⟩) := by
  obtain ⟨i, hi, hz, hsize, hby⟩ := info_parts hinfo
  have add0 : ∀ j, (⟨b, 0, none⟩ : Addr).add j = ⟨b, j, none⟩ := fun j => by unfold Addr.add; split <;> simp_all
  have addn : ∀ g o j, (⟨g, o, none⟩ : Addr).add j = ⟨g, o + j, none⟩ := fun g o j => by unfold Addr.add; split <;> simp_all
  have u1 : ∀ y ∈ [u], y.oneCell' = true := fun y hy => by rw [List.mem_singleton] at hy; subst hy; exact hu
  have src : Src Try.prog 1 t (.slice (some ⟨b, 0, none⟩) 1 1) 1 [u] w := Src.ofSlice w ht ⟨b, 0, none⟩ 1 1 [u] rfl (fun j y hj => by
    rw [add0]
    match j, hj with
    | 0, hj => simp at hj; subst hj; exact h0
    | j + 1, hj => simp at hj) u1
  have src' : Src Try.prog i.size t (.slice (some ⟨b, 0, none⟩) 1 1) 1 [u] w := by rw [hsize]; exact src
  have h1 : ∀ y ∈ xs ++ [u], y.oneCell' = true := fun y hy => by
    rcases List.mem_append.1 hy with m | m
    · exact r.one y m
    · exact u1 y m
  have hln : (xs ++ [u]).length = len + 1 := by rw [List.length_append, r.length]; rfl
  have h63 : len + 1 ≤ maxLen := by unfold maxLen; omega
  have tl := r.length
  have growrun : cap < len + 1 → (Builtin.firstCells i.size len (.slice a len cap)).run Try.prog w.drew = .ok xs.toArray w.drew →
      ∃ a' cap' w', (Builtin.append_ #[t, t] ty #[.slice a len cap, .slice (some ⟨b, 0, none⟩) 1 1]).run Try.prog w = .ok (.slice a' (len + 1) cap') w' ∧ Row w' e a' (len + 1) cap' (xs ++ [u]) ∧ w.grownBy w' (blockOf a) ∧ (a' = a ∨ a' = some ⟨w.heap.size, 0, none⟩) := by
    intro hc hold
    have hr := run_append_grow_src (P := Try.prog) w t t ty e i z ht hi hz a len cap xs hold _ 1 [u] src' hc (by omega) (growslice_fits (by omega) (by rw [hby]; exact hbytes))
    have hge := grownCap_ge w (len + 1) cap e
    have hcm : grownCap w (len + 1) cap e ≤ maxLen := grownCap_le_maxLen w (len + 1) cap e h63
    refine ⟨_, _, _, hr, ⟨hln, hge, hcm, h1, .inr ⟨w.heap.size, _, rfl, heap_alloc_new w.drew _, ?_, ?_⟩⟩, ⟨rfl, rfl, rfl, by simp, fun k hk _ => _root_.Go.heap_alloc_old w.drew _ hk⟩, .inr rfl⟩
    · simp only [Array.size_append, List.size_toArray, size_zeroCells, List.length_append, tl]
      rw [hz1]
      simp
      omega
    · simp only [Array.toList_append]
      have e1 : len + 1 = (xs ++ [u]).length := hln.symm
      rw [e1]
      exact List.take_left
  rcases r.pos with ⟨rfl, rfl⟩ | ⟨g, cur, rfl, hg, hs, htk⟩
  · have l0 : len = 0 := by have := r.room; omega
    subst l0
    have hS : xs = [] := List.eq_nil_of_length_eq_zero r.length
    subst hS
    exact growrun (by omega) (run_firstCells_none w.drew i.size 0 0 0)
  · by_cases hroom : len + 1 ≤ cap
    · have hfit : 0 + len * i.size + [u].length ≤ cur.size := by
        rw [hsize]
        have : [u].length = 1 := rfl
        omega
      have hst := run_storeCells_at Try.prog g (0 + len * i.size) e [u] 0 cur w hg (by simpa using hfit) u1
      simp only [Nat.add_zero] at hst
      have hst' := hst
      simp at hst'
      have hr : (Builtin.append_ #[t, t] ty #[.slice (some ⟨g, 0, none⟩) len cap, .slice (some ⟨b, 0, none⟩) 1 1]).run Try.prog w =
          .ok (.slice (some ⟨g, 0, none⟩) (len + 1) cap) (w.setRow g (cur.toList.take (0 + len * i.size) ++ [u] ++ cur.toList.drop (0 + len * i.size + [u].length)).toArray) := by
        rcases src'.kind with ⟨e', hk⟩ | hk <;> simp [Builtin.append_, run_underlying ht, sizeOf, typeInfo, hi, src'.len, hroom, src'.cells, addn, hst']
      refine ⟨_, _, _, hr, ⟨hln, hroom, r.small, h1, .inr ⟨g, _, rfl, setRow_heap w g cur _ e _ hg, ?_, ?_⟩⟩, ⟨rfl, rfl, rfl, by simp, fun k _ hk => setRow_other w g k _ (fun e => hk (by simp [blockOf, e]))⟩, .inl rfl⟩
      · simp only [List.size_toArray, List.length_append, List.length_take, List.length_drop, Array.length_toList]
        have : [u].length = 1 := rfl
        rw [hsize] at hfit ⊢
        omega
      · have e2 : [u].length = 1 := rfl
        rw [hsize]
        simp only [Nat.zero_add, Nat.mul_one]
        rw [htk]
        have e4 : len + 1 = (xs ++ [u]).length := hln.symm
        rw [e4]
        exact List.take_left
    · exact growrun (by omega) (run_firstCells_some w.drew i.size len ⟨g, 0, none⟩ len cap xs (by rw [hsize, Nat.mul_one]; exact tl) (fun j y hj => by rw [addn, Nat.zero_add]; exact r.cell j y hj))
/-- append of one element, at the operation. -/
theorem wpList_append_row {ops : Array Oper} {rest : List Oper} {o : Oper} {a : Act} {Q : Exit → Act → World → Prop} (w : World) (hgd : o.guard = none) (s x : Operand) (t e : TypeId) (z : Value)
    (ho : o.op = .call { callee := .builtin .append, args := #[s, x], argTypes := #[t, t] })
    (ht : Try.prog.underlying t = some (.slice e)) (hinfo : (Try.prog.info? e).map (fun i => (i.zero, i.size, i.bytes)) = some (some z, 1, 8)) (hz1 : z.cells.size = 1)
    (q : Option Addr) (len cap : Nat) (xs : List Value) (hs : a.eval s = .slice q len cap) (r : Row w e q len cap xs)
    (b : Nat) (u : Value) (hu : u.oneCell' = true) (hx : a.eval x = .slice (some ⟨b, 0, none⟩) 1 1) (h0 : w.cell? ⟨b, 0, none⟩ = some u) (hbytes : (len + 1) * 8 ≤ 140737488355328)
    (h : ∀ q' c' w', Hid (Row w' e q' (len + 1) c' (xs ++ [u])) → Hid (w.grownBy w' (blockOf q)) → Hid (q' = q ∨ q' = some ⟨w.heap.size, 0, none⟩) → wpList Try.prog ops Q rest (a.put o.dst (.slice q' (len + 1) c')) w') : wpList Try.prog ops Q (o :: rest) a w := by
  obtain ⟨q', c', w', hr, h2, h3, h4⟩ := row_append w o.type t e z ht hinfo hz1 q len cap xs r b u hu h0 hbytes
  refine wpList_plain hgd fun K hK => ?_
  unfold Oper.wp execOp
  simp only [ho, resolve, invoke, builtin, Sem.run_bind, Sem.run_pure, Result.andThen_ok, List.map_toArray, List.map_cons, List.map_nil, hs, hx, hr]
  exact hK _ _ (h q' c' w' h2 h3 h4)
end Go.Proofs.Ythcnpijgfhinhaa
