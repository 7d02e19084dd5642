import Derived.Test.YtodmakcklacbfaaPFit
import Derived.Test.YtodmakcklacbfaaNOneW
namespace Go.Proofs.Ytodmakcklacbfaa
open Go.RowKit 

/-- A list of numbers reads so. -/
structure IRd (w : World) (q : Option Addr) (k kc : Nat) (R : List Int) : Prop where
  len : R.length = k
  room : k ≤ kc
  small : kc ≤ maxLen
  cells : 0 < k → ∃ b off, q = some ⟨b, off, none⟩ ∧ ∀ i x, R[i]? = some x → w.cell? ⟨b, off + i, none⟩ = some (.int .i64 x)
theorem IRd.k0 {w w' : World} {q : Option Addr} {k kc : Nat} {R : List Int} (h : IRd w q k kc R) (K : Kept (fun _ => False) w w') : IRd w' q k kc R := by
  refine ⟨h.len, h.room, h.small, fun h0 => ?_⟩
  obtain ⟨b, off, e, hc⟩ := h.cells h0
  exact ⟨b, off, e, fun i x hx => K.cell (hc i x hx) (fun z => z)⟩
theorem IRd.at {w : World} {q : Option Addr} {k kc : Nat} {R : List Int} (h : IRd w q k kc R) {i : Nat} (hi : i < k) : ∃ b off x, q = some ⟨b, off, none⟩ ∧ R[i]? = some x ∧ w.cell? ⟨b, off + i, none⟩ = some (.int .i64 x) := by
  obtain ⟨b, off, e, hc⟩ := h.cells (by omega)
  have hl : i < R.length := by rw [h.len]; exact hi
  exact ⟨b, off, R[i], e, List.getElem?_eq_getElem hl, hc i _ (List.getElem?_eq_getElem hl)⟩
theorem NRow.ird {b0 : Nat} {w : World} {q : Option Addr} {k kc : Nat} {R : List Nat} (h : NRow b0 w q k kc R) : IRd w q k kc (R.map fun x : Nat => (x : Int)) := by
  obtain ⟨r1, r2⟩ := own_room h.row
  refine ⟨by rw [List.length_map]; exact h.len, r1, r2, fun h0 => ?_⟩
  obtain ⟨g, _, e, _, _⟩ := h.at h0
  refine ⟨g, 0, e, fun i x hx => ?_⟩
  rw [List.getElem?_map] at hx
  cases q' : R[i]? with
  | none => rw [q'] at hx; cases hx
  | some r =>
    rw [q'] at hx
    have hi : i < k := by
      have := (List.getElem?_eq_some_iff.1 q').1
      rw [h.len] at this
      exact this
    obtain ⟨g', r', e', hr', c'⟩ := h.at hi
    rw [e] at e'
    have e' : g = g' := by simpa using e'
    subst e'
    rw [q'] at hr'
    injection hr' with hr'
    rw [Nat.zero_add, c', ← hr']
    have : (r : Int) = x := by simpa using hx
    rw [this]
/-- The flags of a set of calls. -/
def boolsB (n : Nat) (b : List Nat) : List Value := (List.range n).map fun i => Value.bool (decide (i ∈ b))
theorem boolsB_get (n : Nat) (b : List Nat) (i : Nat) : (boolsB n b)[i]? = if i < n then some (.bool (decide (i ∈ b))) else none := by
  unfold boolsB
  rw [List.getElem?_map]
  by_cases h : i < n
  · rw [if_pos h, List.getElem?_range h]
    rfl
  · rw [if_neg h, List.getElem?_eq_none (by simp; omega)]
    rfl
theorem boolsB_on {n : Nat} {b : List Nat} {i : Nat} : (boolsB n b).set i (.bool true) = boolsB n (b ++ [i]) := by
  refine List.ext_getElem? fun j => ?_
  rw [List.getElem?_set, boolsB_get, boolsB_get]
  have hl : (boolsB n b).length = n := by simp [boolsB]
  by_cases e : i = j
  · subst e
    rw [if_pos rfl, hl]
    split
    · simp
    · rfl
  · rw [if_neg e]
    have : (j ∈ b ++ [i]) ↔ j ∈ b := by
      rw [List.mem_append, List.mem_singleton]
      exact ⟨fun z => z.elim id (fun z => absurd z.symm e), .inl⟩
    rw [decide_eq_decide.2 this]
theorem boolsB_off {n : Nat} {b : List Nat} {i : Nat} (hi : i ∉ b) : (boolsB n (b ++ [i])).set i (.bool false) = boolsB n b := by
  refine List.ext_getElem? fun j => ?_
  rw [List.getElem?_set, boolsB_get, boolsB_get]
  have hl : (boolsB n (b ++ [i])).length = n := by simp [boolsB]
  by_cases e : i = j
  · subst e
    rw [if_pos rfl, hl]
    split
    · rw [decide_eq_false hi]
    · rfl
  · rw [if_neg e]
    have : (j ∈ b ++ [i]) ↔ j ∈ b := by
      rw [List.mem_append, List.mem_singleton]
      exact ⟨fun z => z.elim id (fun z => absurd z.symm e), .inl⟩
    rw [decide_eq_decide.2 this]
/-- The set, as it lies in memory. -/
structure IS (b0 : Nat) (w : World) (g n : Nat) (b : List Nat) : Prop where
  row : w.ownsRow b0 4 1 (.slice (some ⟨g, 0, none⟩) n n) n (boolsB n b)
theorem IS.k0 {b0 : Nat} {w w' : World} {g n : Nat} {b : List Nat} (h : IS b0 w g n b) (K : Kept (fun _ => False) w w') : IS b0 w' g n b := ⟨K.owns h.row (fun _ _ z => z)⟩
theorem IS.at {b0 : Nat} {w : World} {g n : Nat} {b : List Nat} (h : IS b0 w g n b) {i : Nat} (hi : i < n) : w.cell? ⟨g, i, none⟩ = some (.bool (decide (i ∈ b))) ∧ w.frozen? ⟨g, i, none⟩ = false := by
  obtain ⟨cs, hg⟩ := own_type h.row g rfl
  have hc := h.row.cells (g := g) rfl i (.bool (decide (i ∈ b))) (by rw [boolsB_get, if_pos hi])
  rw [Addr.add_none, Nat.zero_add] at hc
  exact ⟨hc, soft_blk hg i⟩
theorem kept_set {w w' : World} (K : Kept (fun _ => False) w w') {B : Nat} (hb : w.heap.size ≤ B) (i : Nat) (v : Value) : Kept (fun _ => False) w (w'.setCell ⟨B, i, none⟩ v) := K.setCell (p := ⟨B, i, none⟩) (fun z => by have z : B < w.heap.size := z; omega) v
theorem IS.on {b0 : Nat} {w : World} {g n : Nat} {b : List Nat} (h : IS b0 w g n b) (i : Nat) : IS b0 (w.setCell ⟨g, i, none⟩ (.bool true)) g n (b ++ [i]) := by
  refine ⟨?_⟩
  rw [← boolsB_on]
  exact owns_set h.row i _
theorem IS.start (w : World) (n : Nat) (hn : n ≤ maxLen) {C : Array Value} (hC : C.toList = boolsB n []) : IS w.heap.size (w.alloc (.cells C 4)) w.heap.size n [] := by
  have hs : C.size = n := by rw [← Array.length_toList, hC]; simp [boolsB]
  refine ⟨⟨by simp [boolsB], .inr ⟨w.heap.size, n, C, rfl, Nat.le_refl _, alloc_new _ _, Nat.le_refl _, hn, by rw [hs, Nat.mul_one], ?_⟩⟩⟩
  rw [hC, List.take_of_length_le (by simp [boolsB])]
theorem Try.info4c : (Try.prog.info? 4).map (fun i => (i.zero, i.size, i.bytes)) = some (some (.bool false), 1, 1) := by kernel_rfl
theorem fit_part {m : Cm} (h : m.fit = true) : (m.opn || m.cl.must) = m.cl.part := by
  unfold Cm.fit at h
  rw [Bool.and_eq_true, Bool.and_eq_true] at h
  have h1 := h.1.2
  have h2 : m.opn = m.opb := by simpa using h1
  unfold Cl.must Cl.part Cl.open_ Cm.cl
  dsimp only
  cases q : m.opn
  · simp
  · rw [q] at h2
    unfold Cm.opb at h2
    have : m.put = true := by
      cases p : m.put
      · rw [p] at h2; cases h2
      · rfl
    rw [this]
    simp
end Go.Proofs.Ytodmakcklacbfaa
