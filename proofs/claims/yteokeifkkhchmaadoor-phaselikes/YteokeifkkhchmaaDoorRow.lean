import Derived.Test.YteokeifkkhchmaaDoorBase
import Derived.Deep.AppendSrc
import Derived.Deep.AppendLies
namespace Go.Proofs.YteokeifkkhchmaaDoor
open Go.RowKit 

def ints (l : List Int) : List Value := l.map (Value.int .i64)
/-- A slice reads as this list of numbers. -/
structure IReads (w : World) (a : Option Addr) (len cap : Nat) (l : List Int) : Prop where
  length : l.length = len
  room : len ≤ cap
  small : cap ≤ maxLen
  cells : 0 < len → ∃ b off, a = some ⟨b, off, none⟩ ∧ ∀ i, i < len → w.cell? ⟨b, off + i, none⟩ = some (.int .i64 (l.getD i 0))
theorem IReads.by {w w' : World} {a : Option Addr} {len cap : Nat} {l : List Int} (r : IReads w a len cap l) (B : Below w.heap.size w w') : IReads w' a len cap l := ⟨r.length, r.room, r.small, fun h => by
  obtain ⟨b, off, e, hc⟩ := r.cells h
  refine ⟨b, off, e, fun i hi => ?_⟩
  have lb : b < w.heap.size := World.block_lt_of_cell? w _ (hc i hi)
  exact (B.cell lb).trans (hc i hi)⟩
theorem IReads.kept {S : Nat → Prop} {w w' : World} {a : Option Addr} {len cap : Nat} {l : List Int} (r : IReads w a len cap l) (B : Kept S w w') (hn : ∀ b off, a = some ⟨b, off, none⟩ → ¬ S b) : IReads w' a len cap l := ⟨r.length, r.room, r.small, fun h => by
  obtain ⟨b, off, e, hc⟩ := r.cells h
  refine ⟨b, off, e, fun i hi => ?_⟩
  exact B.cell (hc i hi) (hn _ _ e)⟩
theorem getD_at (l : List Int) (i : Nat) (h : i < l.length) : l.getD i 0 = l[i] := by
  rw [List.getD_eq_getElem?_getD, List.getElem?_eq_getElem h]; rfl
theorem ints_get (l : List Int) (i : Nat) (h : i < l.length) : (ints l)[i]? = some (.int .i64 (l.getD i 0)) := by
  rw [getD_at l i h]; unfold ints; rw [List.getElem?_map, List.getElem?_eq_getElem h]; rfl
theorem owns_ireads {w : World} {base k : Nat} {v : Value} {l : List Int} (h : w.ownsRow base 3 1 v k (ints l)) :
    ∃ a cap, v = .slice a k cap ∧ IReads w a k cap l ∧ ∀ p, a = some p → base ≤ p.block := by
  have hl : l.length = k := by have := h.1; unfold ints at this; rw [List.length_map] at this; omega
  rcases h.2 with ⟨rfl, rfl⟩ | ⟨g, cap, cur, rfl, hb, hg, hk, hm, hs, ht⟩
  · exact ⟨none, 0, rfl, ⟨hl, Nat.le_refl _, by unfold maxLen; omega, fun h0 => absurd h0 (by omega)⟩, fun _ q => by cases q⟩
  · refine ⟨_, cap, rfl, ⟨hl, hk, hm, fun _ => ⟨g, 0, rfl, fun i hi => ?_⟩⟩, fun p q => by cases q; exact hb⟩
    have e0 := ints_get l i (by omega)
    rw [← ht, List.getElem?_take_of_lt (by omega)] at e0
    rw [cell_of_row w g _ cur 3 (0, 0) hg, Nat.zero_add]
    simpa using e0
theorem take_next (l m : List Int) (i : Nat) (h1 : i < l.length) (h2 : i < m.length) (h : l.take i = m.take i) (he : l.getD i 0 = m.getD i 0) : l.take (i + 1) = m.take (i + 1) := by
  rw [List.take_succ_eq_append_getElem h1, List.take_succ_eq_append_getElem h2, h, ← getD_at l i h1, ← getD_at m i h2, he]
theorem bdrewN {n : Nat} {w w' : World} (h : Below n w w') (k : Nat) : Below n w (w'.drewN k) := ⟨h.os, h.tape, h.output, h.size, h.block⟩
theorem below_drewN (w : World) (k : Nat) : Below w.heap.size w (w.drewN k) := ⟨rfl, rfl, rfl, Nat.le_refl _, fun _ _ => rfl⟩
set_option maxRecDepth 100000 in
set_option maxHeartbeats 1000000 in
theorem sameInts (a1 a2 : Option Addr) (len1 cap1 len2 cap2 : Nat) (l m : List Int) (w : World) (r1 : IReads w a1 len1 cap1 l) (r2 : IReads w a2 len2 cap2 m) :
    Calls Tryd.prog 22 #[.slice a1 len1 cap1, .slice a2 len2 cap2] w fun x w' => x = .returned (.bool (decide (l = m))) ∧ ∃ k, w' = w.drewN k := by
  have l1 := r1.length
  have l2 := r2.length
  have k1 := r1.room
  have k2 := r2.room
  have s1 := r1.small
  have s2 := r2.small
  unfold maxLen at s1 s2
  have R1 : Hid (IReads w a1 len1 cap1 l) := r1
  have R2 : Hid (IReads w a2 len2 cap2 m) := r2
  clear r1 r2
  by_cases hl : len1 = len2
  · subst hl
    go_enter Tryd.func22, Tryd.ntmps22
    go_wp2_with fail
    go_loopw [5, 13] (fun _ x wr => ∃ (i k : Nat), x = .int .i64 (i : Int) ∧ i ≤ len1 ∧ wr = w.drewN k ∧ Hid (l.take i = m.take i)) (fun _ x _ => len1 - (intOf x).toNat)
    case atStart => exact ⟨0, 0, rfl, Nat.zero_le _, rfl, rfl⟩
    case round =>
      obtain ⟨i, k, rfl, hi, rfl, hT⟩ := hrel
      by_cases hlt : i < len1
      · obtain ⟨b1, o1, rfl, hc1⟩ := R1.out.cells (by omega)
        obtain ⟨b2, o2, rfl, hc2⟩ := R2.out.cells (by omega)
        have e1 := hc1 i hlt
        have e2 := hc2 i hlt
        have i1 : (i : Int) < (len1 : Int) := by omega
        obtain ⟨x, hx⟩ : ∃ x, l.getD i 0 = x := ⟨_, rfl⟩
        obtain ⟨y, hy⟩ : ∃ x, m.getD i 0 = x := ⟨_, rfl⟩
        have HX : Hid (l.getD i 0 = x) := hx
        have HY : Hid (m.getD i 0 = y) := hy
        rw [hx] at e1
        rw [hy] at e2
        clear hc1 hc2 hx hy
        by_cases hxy : x = y
        · subst hxy
          go_wp2_with fail
          go_quiet (fail)
          go_wp2_with fail
          go_roundw
          case rel => exact ⟨i + 1, k + nq, by go_num, by omega, rfl, take_next l m i (by omega) (by omega) hT.out (HX.out.trans HY.out.symm)⟩
          case measure => simp [intOf]; omega
        · have hd : decide (x = y) = false := by simp [hxy]
          go_wp2_with fail
          go_quiet (fail)
          go_wp2_with fail
          go_ret
          refine ⟨?_, k + nq, by rw [World.drewN_drewN]⟩
          have : ¬ l = m := fun q => hxy (by rw [← HX.out, ← HY.out, q])
          simp [this]
      · have he : len1 = i := by omega
        subst he
        go_wp2_with fail
        go_ret
        refine ⟨?_, k, rfl⟩
        have : l = m := by
          have := hT.out
          rw [List.take_of_length_le (by omega), List.take_of_length_le (by omega)] at this
          exact this
        simp [this]
  · go_enter Tryd.func22, Tryd.ntmps22
    have hn : ¬ ((len1 : Int) = (len2 : Int)) := by omega
    go_wp2_with fail
    go_ret
    refine ⟨?_, 0, rfl⟩
    have : ¬ l = m := fun q => hl (by rw [← l1, ← l2, q])
    simp [this]
theorem three_reads {w : World} {g : Nat} (x y z : Int) (h : w.heap[g]? = some (.cells #[.int .i64 x, .int .i64 y, .int .i64 z] 3 (0, 0))) : IReads w (some ⟨g, 0, none⟩) 3 3 [x, y, z] := by
  refine ⟨rfl, Nat.le_refl _, by unfold maxLen; omega, fun _ => ⟨g, 0, rfl, fun i hi => ?_⟩⟩
  rw [Nat.zero_add]
  have : i = 0 ∨ i = 1 ∨ i = 2 := by omega
  rcases this with rfl | rfl | rfl
  · exact cell_blk h 0 rfl
  · exact cell_blk h 1 rfl
  · exact cell_blk h 2 rfl
theorem one_reads {w : World} {g : Nat} (x : Int) (h : w.heap[g]? = some (.cells #[.int .i64 x] 3 (0, 0))) : IReads w (some ⟨g, 0, none⟩) 1 1 [x] := by
  refine ⟨rfl, Nat.le_refl _, by unfold maxLen; omega, fun _ => ⟨g, 0, rfl, fun i hi => ?_⟩⟩
  rw [Nat.zero_add]
  have : i = 0 := by omega
  subst this
  exact cell_blk h 0 rfl
def blockOf (a : Option Addr) : Option Nat := a.map (·.block)
/-- A list of one-cell elements with room behind it, at its block's beginning. -/
structure Row (w : World) (e : TypeId) (a : Option Addr) (len cap : Nat) (xs : List Value) : Prop where
  length : xs.length = len
  room : len ≤ cap
  small : cap ≤ maxLen
  one : ∀ u ∈ xs, u.oneCell' = true
  pos : (a = none ∧ cap = 0) ∨ ∃ g cur, a = some ⟨g, 0, none⟩ ∧ w.heap[g]? = some (.cells cur e (0, 0)) ∧ cap ≤ cur.size ∧ cur.toList.take len = xs
theorem Row.cell {w : World} {e : TypeId} {g cap len : Nat} {xs : List Value} (r : Row w e (some ⟨g, 0, none⟩) len cap xs) (i : Nat) (u : Value) (h : xs[i]? = some u) : w.cell? ⟨g, i, none⟩ = some u := by
  rcases r.pos with ⟨q, _⟩ | ⟨g', cur, q, hg, hs, ht⟩
  · cases q
  · simp at q
    subst q
    have il : i < len := by have := (List.getElem?_eq_some_iff.1 h).1; rw [r.length] at this; exact this
    rw [← ht, List.getElem?_take_of_lt il] at h
    rw [cell_of_row w g _ cur e (0, 0) hg]
    simpa using h
theorem Row.soft {w : World} {e : TypeId} {g cap len : Nat} {xs : List Value} (r : Row w e (some ⟨g, 0, none⟩) len cap xs) (i : Nat) : w.frozen? ⟨g, i, none⟩ = false := by
  rcases r.pos with ⟨q, _⟩ | ⟨g', cur, q, hg, hs, ht⟩
  · cases q
  · simp at q
    subst q
    exact soft_blk hg i
theorem Row.nil (w : World) (e : TypeId) : Row w e none 0 0 [] := ⟨rfl, Nat.le_refl _, by unfold maxLen; omega, fun _ h => absurd h (by simp), .inl ⟨rfl, rfl⟩⟩
theorem Row.some_of {w : World} {e : TypeId} {a : Option Addr} {len cap : Nat} {xs : List Value} (r : Row w e a len cap xs) (h : 0 < len) : ∃ g, a = some ⟨g, 0, none⟩ := by
  rcases r.pos with ⟨q, _⟩ | ⟨g', cur, q, hg, hs, ht⟩
  · have := r.room; omega
  · exact ⟨g', q⟩
theorem Row.blk {w : World} {e : TypeId} {a : Option Addr} {len cap : Nat} {xs : List Value} (r : Row w e a len cap xs) {g : Nat} (h : blockOf a = some g) : ∃ cur, w.heap[g]? = some (.cells cur e (0, 0)) := by
  rcases r.pos with ⟨q, _⟩ | ⟨g', cur, q, hg, hs, ht⟩
  · subst q; simp [blockOf] at h
  · subst q; simp [blockOf] at h; subst h; exact ⟨cur, hg⟩
theorem Row.lt {w : World} {e : TypeId} {a : Option Addr} {len cap : Nat} {xs : List Value} (r : Row w e a len cap xs) {g : Nat} (h : blockOf a = some g) : g < w.heap.size := by
  obtain ⟨cur, hg⟩ := r.blk h; exact block_lt hg
theorem Row.kept {S : Nat → Prop} {w w' : World} {e : TypeId} {a : Option Addr} {len cap : Nat} {xs : List Value} (r : Row w e a len cap xs) (k : Kept S w w') (hn : ∀ g, blockOf a = some g → ¬ S g) : Row w' e a len cap xs := by
  refine ⟨r.length, r.room, r.small, r.one, ?_⟩
  rcases r.pos with q | ⟨g, cur, rfl, hg, hs, ht⟩
  · exact .inl q
  · exact .inr ⟨g, cur, rfl, k.get hg (hn g rfl), hs, ht⟩
theorem Row.by {w w' : World} {e : TypeId} {a : Option Addr} {len cap : Nat} {xs : List Value} (r : Row w e a len cap xs) (B : Below w.heap.size w w') : Row w' e a len cap xs :=
  r.kept (Kept.of_below B) (fun g h => by have := r.lt h; omega)
theorem Row.of_owns {w : World} {e : TypeId} {base k : Nat} {v : Value} {xs : List Value} (h : w.ownsRow base e 1 v k xs) (h1 : ∀ u ∈ xs, u.oneCell' = true) : ∃ a cap, v = .slice a k cap ∧ Row w e a k cap xs ∧ ∀ g, blockOf a = some g → base ≤ g := by
  have hl : xs.length = k := by have := h.1; omega
  rcases h.2 with ⟨rfl, rfl⟩ | ⟨g, cap, cur, rfl, hb, hg, hk, hm, hs, ht⟩
  · exact ⟨none, 0, rfl, ⟨hl, Nat.le_refl _, by unfold maxLen; omega, h1, .inl ⟨rfl, rfl⟩⟩, fun _ q => by simp [blockOf] at q⟩
  · exact ⟨_, cap, rfl, ⟨hl, hk, hm, h1, .inr ⟨g, cur, rfl, hg, by omega, by simpa using ht⟩⟩, fun g' q => by simp [blockOf] at q; subst q; exact hb⟩
theorem ints_one (l : List Int) : ∀ u ∈ ints l, u.oneCell' = true := fun u hu => by
  unfold ints at hu
  obtain ⟨x, _, rfl⟩ := List.mem_map.1 hu
  rfl
theorem ints_length (l : List Int) : (ints l).length = l.length := by unfold ints; rw [List.length_map]
theorem Row.ireads {w : World} {a : Option Addr} {len cap : Nat} {l : List Int} (r : Row w 3 a len cap (ints l)) : IReads w a len cap l := by
  have hl : l.length = len := by have := r.length; rw [ints_length] at this; exact this
  refine ⟨hl, r.room, r.small, fun h0 => ?_⟩
  obtain ⟨g, rfl⟩ := r.some_of h0
  refine ⟨g, 0, rfl, fun i hi => ?_⟩
  rw [Nat.zero_add]
  exact r.cell i _ (ints_get l i (by omega))
/-- A place in the list is written over. -/
theorem Row.store {w : World} {e : TypeId} {g cap len : Nat} {xs : List Value} (r : Row w e (some ⟨g, 0, none⟩) len cap xs) (i : Nat) (u : Value) (hu : u.oneCell' = true) : Row (w.setCell ⟨g, i, none⟩ u) e (some ⟨g, 0, none⟩) len cap (xs.set i u) := by
  rcases r.pos with ⟨q, _⟩ | ⟨g', cur, q, hg, hs, ht⟩
  · cases q
  · simp at q
    subst q
    refine ⟨by rw [List.length_set]; exact r.length, r.room, r.small, fun y hy => ?_, .inr ⟨g, _, rfl, heap_set hg i u, by simpa using hs, ?_⟩⟩
    · rcases List.mem_or_eq_of_mem_set hy with q | q
      · exact r.one y q
      · rw [q]; exact hu
    · rw [Array.toList_setIfInBounds, List.take_set, ht]
/-- append of some elements onto such a list. -/
theorem row_append (w : World) (ty t e : TypeId) (z : Value) (ht : Tryd.prog.underlying t = some (.slice e)) (hinfo : (Tryd.prog.info? e).map (fun i => (i.zero, i.size, i.bytes)) = some (some z, 1, 8)) (hz1 : z.cells.size = 1)
    (a : Option Addr) (len cap m : Nat) (xs us : List Value) (r : Row w e a len cap xs) (b : Nat) (hm : us.length = m) (h0m : 0 < m) (hu : ∀ u ∈ us, u.oneCell' = true)
    (h0 : ∀ j u, us[j]? = some u → w.cell? ⟨b, j, none⟩ = some u) (hbytes : (len + m) * 8 ≤ 140737488355328) :
    ∃ a' cap' w', (Builtin.append_ #[t, t] ty #[.slice a len cap, .slice (some ⟨b, 0, none⟩) m m]).run Tryd.prog w = .ok (.slice a' (len + m) cap') w' ∧ Row w' e a' (len + m) cap' (xs ++ us) ∧ w.grownBy w' (blockOf a) ∧ (a' = a ∨ a' = some ⟨w.heap.size, 0, none⟩) := by
  obtain ⟨i, hi, hz, hsize, hby⟩ := info_parts hinfo
  have add0 : ∀ j, (⟨b, 0, none⟩ : Addr).add j = ⟨b, j, none⟩ := fun j => by unfold Addr.add; split <;> simp_all
  have addn : ∀ g o j, (⟨g, o, none⟩ : Addr).add j = ⟨g, o + j, none⟩ := fun g o j => by unfold Addr.add; split <;> simp_all
  have src : Src Tryd.prog 1 t (.slice (some ⟨b, 0, none⟩) m m) m us w := Src.ofSlice w ht ⟨b, 0, none⟩ m m us (by rw [hm, Nat.mul_one]) (fun j y hj => by rw [add0]; exact h0 j y hj) hu
  have src' : Src Tryd.prog i.size t (.slice (some ⟨b, 0, none⟩) m m) m us w := by rw [hsize]; exact src
  have h1 : ∀ y ∈ xs ++ us, y.oneCell' = true := fun y hy => by
    rcases List.mem_append.1 hy with m | m
    · exact r.one y m
    · exact hu y m
  have hln : (xs ++ us).length = len + m := by rw [List.length_append, r.length, hm]
  have h63 : len + m ≤ maxLen := by unfold maxLen; omega
  have tl := r.length
  have growrun : cap < len + m → (Builtin.firstCells i.size len (.slice a len cap)).run Tryd.prog w.drew = .ok xs.toArray w.drew →
      ∃ a' cap' w', (Builtin.append_ #[t, t] ty #[.slice a len cap, .slice (some ⟨b, 0, none⟩) m m]).run Tryd.prog w = .ok (.slice a' (len + m) cap') w' ∧ Row w' e a' (len + m) cap' (xs ++ us) ∧ w.grownBy w' (blockOf a) ∧ (a' = a ∨ a' = some ⟨w.heap.size, 0, none⟩) := by
    intro hc hold
    have hr := run_append_grow_src (P := Tryd.prog) w t t ty e i z ht hi hz a len cap xs hold _ m us src' hc (by omega) (growslice_fits (by omega) (by rw [hby]; exact hbytes))
    have hge := grownCap_ge w (len + m) cap e
    have hcm : grownCap w (len + m) cap e ≤ maxLen := grownCap_le_maxLen w (len + m) cap e h63
    refine ⟨_, _, _, hr, ⟨hln, hge, hcm, h1, .inr ⟨w.heap.size, _, rfl, heap_alloc_new w.drew _, ?_, ?_⟩⟩, ⟨rfl, rfl, rfl, by simp, fun k hk _ => _root_.Go.heap_alloc_old w.drew _ hk⟩, .inr rfl⟩
    · simp only [Array.size_append, List.size_toArray, size_zeroCells, List.length_append, tl, hm]
      rw [hz1]
      simp
      omega
    · simp only [Array.toList_append]
      have e1 : len + m = (xs ++ us).length := hln.symm
      rw [e1]
      exact List.take_left
  rcases r.pos with ⟨rfl, rfl⟩ | ⟨g, cur, rfl, hg, hs, htk⟩
  · have l0 : len = 0 := by have := r.room; omega
    subst l0
    have hS : xs = [] := List.eq_nil_of_length_eq_zero r.length
    subst hS
    exact growrun (by omega) (run_firstCells_none w.drew i.size 0 0 0)
  · by_cases hroom : len + m ≤ cap
    · have hfit : 0 + len * i.size + us.length ≤ cur.size := by
        rw [hsize, hm]
        omega
      have hst := run_storeCells_at Tryd.prog g (0 + len * i.size) e us 0 cur w hg (by simpa using hfit) hu
      simp only [Nat.add_zero] at hst
      have hst' := hst
      simp at hst'
      have hr : (Builtin.append_ #[t, t] ty #[.slice (some ⟨g, 0, none⟩) len cap, .slice (some ⟨b, 0, none⟩) m m]).run Tryd.prog w =
          .ok (.slice (some ⟨g, 0, none⟩) (len + m) cap) (w.setRow g (cur.toList.take (0 + len * i.size) ++ us ++ cur.toList.drop (0 + len * i.size + us.length)).toArray) := by
        rcases src'.kind with ⟨e', hk⟩ | hk <;> simp [Builtin.append_, run_underlying ht, sizeOf, typeInfo, hi, src'.len, hroom, src'.cells, addn, hst']
      refine ⟨_, _, _, hr, ⟨hln, hroom, r.small, h1, .inr ⟨g, _, rfl, setRow_heap w g cur _ e _ hg, ?_, ?_⟩⟩, ⟨rfl, rfl, rfl, by simp, fun k _ hk => setRow_other w g k _ (fun e => hk (by simp [blockOf, e]))⟩, .inl rfl⟩
      · simp only [List.size_toArray, List.length_append, List.length_take, List.length_drop, Array.length_toList]
        rw [hsize] at hfit ⊢
        omega
      · rw [hsize]
        simp only [Nat.zero_add, Nat.mul_one]
        rw [htk]
        have e4 : len + m = (xs ++ us).length := hln.symm
        rw [e4]
        exact List.take_left
    · exact growrun (by omega) (run_firstCells_some w.drew i.size len ⟨g, 0, none⟩ len cap xs (by rw [hsize, Nat.mul_one]; exact tl) (fun j y hj => by rw [addn, Nat.zero_add]; exact r.cell j y hj))
/-- append, at the operation. -/
theorem wpList_append_row {ops : Array Oper} {rest : List Oper} {o : Oper} {a : Act} {Q : Exit → Act → World → Prop} (w : World) (hgd : o.guard = none) (s x : Operand) (t e : TypeId) (z : Value)
    (ho : o.op = .call { callee := .builtin .append, args := #[s, x], argTypes := #[t, t] })
    (ht : Tryd.prog.underlying t = some (.slice e)) (hinfo : (Tryd.prog.info? e).map (fun i => (i.zero, i.size, i.bytes)) = some (some z, 1, 8)) (hz1 : z.cells.size = 1)
    (q : Option Addr) (len cap m : Nat) (xs us : List Value) (hs : a.eval s = .slice q len cap) (r : Row w e q len cap xs)
    (b : Nat) (hm : us.length = m) (h0m : 0 < m) (hu : ∀ u ∈ us, u.oneCell' = true) (hx : a.eval x = .slice (some ⟨b, 0, none⟩) m m) (h0 : ∀ j u, us[j]? = some u → w.cell? ⟨b, j, none⟩ = some u) (hbytes : (len + m) * 8 ≤ 140737488355328)
    (h : ∀ q' c' w', Hid (Row w' e q' (len + m) c' (xs ++ us)) → Hid (w.grownBy w' (blockOf q)) → Hid (q' = q ∨ q' = some ⟨w.heap.size, 0, none⟩) → wpList Tryd.prog ops Q rest (a.put o.dst (.slice q' (len + m) c')) w') : wpList Tryd.prog ops Q (o :: rest) a w := by
  obtain ⟨q', c', w', hr, h2, h3, h4⟩ := row_append w o.type t e z ht hinfo hz1 q len cap m xs us r b hm h0m hu h0 hbytes
  refine wpList_plain hgd fun K hK => ?_
  unfold Oper.wp execOp
  simp only [ho, resolve, invoke, builtin, Sem.run_bind, Sem.run_pure, Result.andThen_ok, List.map_toArray, List.map_cons, List.map_nil, hs, hx, hr]
  exact hK _ _ (h q' c' w' h2 h3 h4)
theorem one_src {w : World} {b : Nat} {u : Value} (h0 : w.cell? ⟨b, 0, none⟩ = some u) : ∀ j y, [u][j]? = some y → w.cell? ⟨b, j, none⟩ = some y := fun j y hj => by
  match j, hj with
  | 0, hj => simp at hj; subst hj; exact h0
  | j + 1, hj => simp at hj
theorem two_src {w : World} {b : Nat} {u v : Value} (h0 : w.cell? ⟨b, 0, none⟩ = some u) (h1 : w.cell? ⟨b, 1, none⟩ = some v) : ∀ j y, [u, v][j]? = some y → w.cell? ⟨b, j, none⟩ = some y := fun j y hj => by
  match j, hj with
  | 0, hj => simp at hj; subst hj; exact h0
  | 1, hj => simp at hj; subst hj; exact h1
  | j + 2, hj => simp at hj
theorem int_info : (Tryd.prog.info? 3).map (fun i => (i.zero, i.size, i.bytes)) = some (some (.int .i64 0), 1, 8) := by kernel_rfl
theorem blockOf_some (g off : Nat) : blockOf (some ⟨g, off, none⟩) = some g := rfl
theorem ints_app (l m : List Int) : ints l ++ ints m = ints (l ++ m) := by unfold ints; simp
theorem Kept.ofB {w w' : World} (h : Below w.heap.size w w') : Kept (fun _ => False) w w' := ⟨h.os, h.tape, h.output, h.size, fun k hk _ => h.block k hk⟩
theorem Kept.toB {w w' : World} (h : Kept (fun _ => False) w w') : Below w.heap.size w w' := ⟨h.os, h.tape, h.output, h.size, fun k hk => h.block k hk (fun z => z)⟩
theorem Kept.and0 {S : Nat → Prop} {a b c : World} (h : Kept S a b) (k : Kept (fun _ => False) b c) : Kept S a c := h.trans k (fun _ _ z => z.elim)
theorem k0_alloc (w : World) (o : Obj) : Kept (fun _ => False) w (w.alloc o) := (Kept.refl _ w).alloc o
end Go.Proofs.YteokeifkkhchmaaDoor
