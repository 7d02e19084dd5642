import Derived.Test.YtodmakcklacbfaaVAheadJ
import Derived.Test.YtodmakcklacbfaaNNew
import Derived.Test.YtodmakcklacbfaaPTagJ
namespace Go.Proofs.Ytodmakcklacbfaa
open Go.RowKit 

/-- The place of a call in an order, from 1 on. -/
def posL (b : List Nat) (i : Nat) : Int := if i ∈ b then ((b.idxOf i : Nat) : Int) + 1 else 0
theorem posL_out {b : List Nat} {i : Nat} (h : i ∉ b) : posL b i = 0 := by unfold posL; rw [if_neg h]
theorem posL_in {b : List Nat} {i : Nat} (h : i ∈ b) : 0 < posL b i := by unfold posL; rw [if_pos h]; omega
theorem posL_add {b : List Nat} {r i : Nat} (hr : r ∉ b) : posL (b ++ [r]) i = if i = r then (b.length : Int) + 1 else posL b i := by
  unfold posL
  by_cases e : i = r
  · subst e
    rw [if_pos rfl, if_pos (by simp), List.idxOf_append, if_neg hr]
    simp
  · rw [if_neg e]
    by_cases h : i ∈ b
    · rw [if_pos (List.mem_append_left _ h), if_pos h, List.idxOf_append, if_pos h]
    · rw [if_neg h, if_neg]
      intro z
      rcases List.mem_append.1 z with z | z
      · exact h z
      · exact e (List.mem_singleton.1 z)
theorem posL_take {R : List Nat} {x i j : Nat} (hi : R[x]? = some i) (hn : i ∉ R.take x) (hj : j ∈ R.take x) : posL R j < posL R i := by
  obtain ⟨hx, he⟩ := List.getElem?_eq_some_iff.1 hi
  have e : R = R.take x ++ i :: R.drop (x + 1) := by
    conv => lhs; rw [← List.take_append_drop x R, List.drop_eq_getElem_cons hx, he]
  have hl : (R.take x).length = x := by rw [List.length_take]; omega
  unfold posL
  rw [if_pos (List.mem_of_mem_take hj), if_pos (List.mem_of_getElem? hi)]
  have h1 : R.idxOf i = x := by
    rw [e, List.idxOf_append, if_neg hn, hl]
    simp
  have h2 : R.idxOf j < x := by
    rw [e, List.idxOf_append, if_pos hj]
    have := List.idxOf_lt_length_of_mem hj
    omega
  omega
def posV (n : Nat) (b : List Nat) : List Value := (List.range n).map fun i => Value.int .i64 (posL b i)
theorem posV_get (n : Nat) (b : List Nat) (i : Nat) : (posV n b)[i]? = if i < n then some (.int .i64 (posL b i)) else none := by
  unfold posV
  rw [List.getElem?_map]
  by_cases h : i < n
  · rw [if_pos h, List.getElem?_range h]
    rfl
  · rw [if_neg h, List.getElem?_eq_none (by simp; omega)]
    rfl
theorem posV_set {n : Nat} {b : List Nat} {r : Nat} (hr : r ∉ b) : (posV n b).set r (.int .i64 ((b.length : Int) + 1)) = posV n (b ++ [r]) := by
  refine List.ext_getElem? fun j => ?_
  rw [List.getElem?_set, posV_get, posV_get]
  have hl : (posV n b).length = n := by simp [posV]
  by_cases e : r = j
  · subst e
    rw [if_pos rfl, hl]
    split
    · rw [posL_add hr, if_pos rfl]
    · rfl
  · have e2 : posL (b ++ [r]) j = posL b j := by rw [posL_add hr, if_neg (fun z => e z.symm)]
    rw [if_neg e, e2]
/-- The places, as they lie in memory. -/
structure AT (w0 wr : World) (g n : Nat) (b : List Nat) : Prop where
  row : wr.ownsRow w0.heap.size 3 1 (.slice (some ⟨g, 0, none⟩) n n) n (posV n b)
  kept : Kept (fun _ => False) w0 wr
theorem AT.k0 {w0 wr w' : World} {g n : Nat} {b : List Nat} (h : AT w0 wr g n b) (K : Kept (fun _ => False) wr w') : AT w0 w' g n b := ⟨K.owns h.row (fun _ _ z => z), h.kept.trans K (fun _ _ z => z)⟩
theorem AT.at {w0 wr : World} {g n : Nat} {b : List Nat} (h : AT w0 wr g n b) {i : Nat} (hi : i < n) : wr.cell? ⟨g, i, none⟩ = some (.int .i64 (posL b i)) ∧ wr.frozen? ⟨g, i, none⟩ = false := by
  obtain ⟨cs, hg⟩ := own_type h.row g rfl
  have hc := h.row.cells (g := g) rfl i (.int .i64 (posL b i)) (by rw [posV_get, if_pos hi])
  rw [Addr.add_none, Nat.zero_add] at hc
  exact ⟨hc, soft_blk hg i⟩
theorem AT.put {w0 wr : World} {g n : Nat} {b : List Nat} (h : AT w0 wr g n b) {r : Nat} (hr : r ∉ b) : AT w0 (wr.setCell ⟨g, r, none⟩ (.int .i64 ((b.length : Int) + 1))) g n (b ++ [r]) := by
  have hg := (own_lt h.row g rfl).1
  refine ⟨?_, kept_setv h.kept hg _ _⟩
  rw [← posV_set hr]
  exact owns_set h.row r _
theorem AT.start (w : World) (n : Nat) (hn : n ≤ maxLen) {C : Array Value} (hC : C.toList = posV n []) : AT w (w.alloc (.cells C 3)) w.heap.size n [] := by
  have hl : C.size = n := by rw [← Array.length_toList, hC]; simp [posV]
  refine ⟨⟨by simp [posV], .inr ⟨w.heap.size, n, C, rfl, Nat.le_refl _, alloc_new _ _, Nat.le_refl _, hn, by rw [hl, Nat.mul_one], ?_⟩⟩, (Kept.refl _ _).alloc _⟩
  rw [hC, List.take_of_length_le (by simp [posV])]
end Go.Proofs.Ytodmakcklacbfaa

namespace Go.Proofs.Ytodmakcklacbfaa
open Go.RowKit 

theorem lastF_succ {cs : List Cl} {R : List Nat} {x i : Nat} {c : Cl} (h : R[x]? = some i) (hc : cs[i]? = some c) : lastF cs (R.take (x + 1)) (-1) = if c.put = true then (i : Int) else lastF cs (R.take x) (-1) := by
  rw [List.take_add_one, h]
  show lastF cs (R.take x ++ [i]) (-1) = _
  rw [lastF_add, hc]
/-- What an order that explains has at each place. -/
theorem expl_at {ms : List Cm} {RI : List Int} {x : Nat} {z : Int} (fit : FitL ms) (h : Expl ms RI) (hz : RI[x]? = some z) : ∃ i : Nat, z = (i : Int) ∧ i < ms.length ∧ (∀ R : List Nat, RI.take x = R.map (fun r : Nat => (r : Int)) → i ∉ R) ∧ ∃ m, ms[i]? = some m ∧ m.cl.part = true := by
  obtain ⟨Rn, e, run⟩ := h
  obtain ⟨a, _⟩ := (explain_iff fit.nb).1 run
  rw [e, List.getElem?_map] at hz
  obtain ⟨i, hi, rfl⟩ := Option.map_eq_some_iff.1 hz
  have hx := (List.getElem?_eq_some_iff.1 hi).1
  obtain ⟨a1, c, a2, a3⟩ := a x hx i hi
  rw [List.getElem?_map] at a2
  obtain ⟨m, hm, rfl⟩ := Option.map_eq_some_iff.1 a2
  refine ⟨i, rfl, (List.getElem?_eq_some_iff.1 hm).1, fun R hR => ?_, m, hm, a3⟩
  rw [e, ← List.map_take] at hR
  rw [← map_inj hR]
  exact a1
/-- No call that must be ahead stands behind, of those at the first places. -/
def C2 (ms : List Cm) (R : List Nat) (x : Nat) : Prop := ∀ y i, y < x → R[y]? = some i → ∀ j d mi, ms[j]? = some d → ms[i]? = some mi → d.cl.must = true → d.cl.ahead mi.cl = true → ¬ posL R i < posL R j
theorem c2_exc {ms : List Cm} {R : List Nat} (a : ExA (ms.map Cm.cl) R R.length) (h : C2 ms R R.length) : ExC (ms.map Cm.cl) R (ms.map Cm.cl).length := by
  intro i hi j hj ca cb ha hb hh x y hx hy
  rw [List.getElem?_map] at ha hb
  obtain ⟨ma, hma, rfl⟩ := Option.map_eq_some_iff.1 ha
  obtain ⟨mb, hmb, rfl⟩ := Option.map_eq_some_iff.1 hb
  by_cases le : y ≤ x
  · exact le
  · have hxl := (List.getElem?_eq_some_iff.1 hx).1
    have hyl := (List.getElem?_eq_some_iff.1 hy).1
    have mu : ma.cl.must = true := by unfold Cl.ahead at hh; rw [Bool.and_eq_true, Bool.and_eq_true] at hh; exact hh.1.1
    refine absurd (posL_take hy (a y hyl i hy).1 ?_) (h x j hxl hx i ma mb hma hmb mu hh)
    exact List.mem_of_getElem? (i := x) (by rw [List.getElem?_take_of_lt (by omega)]; exact hx)
theorem exc_no {ms : List Cm} {R : List Nat} (a : ExA (ms.map Cm.cl) R R.length) (h : ExC (ms.map Cm.cl) R (ms.map Cm.cl).length) {x i j : Nat} {d mi : Cm} (hx : R[x]? = some i) (hd : ms[j]? = some d) (hm : ms[i]? = some mi) (hh : d.cl.ahead mi.cl = true) : ¬ posL R i < posL R j := by
  intro lt
  have hxl := (List.getElem?_eq_some_iff.1 hx).1
  have hjR : j ∈ R := by
    by_cases q : j ∈ R
    · exact q
    · rw [posL_out q] at lt
      have := posL_in (List.mem_of_getElem? hx)
      omega
  obtain ⟨y, hy, e⟩ := List.getElem_of_mem hjR
  have hy2 : R[y]? = some j := by rw [List.getElem?_eq_getElem hy, e]
  have le := h j (by rw [List.length_map]; exact (List.getElem?_eq_some_iff.1 hd).1) i (by rw [List.length_map]; exact (List.getElem?_eq_some_iff.1 hm).1) _ _ (by rw [List.getElem?_map, hd]; rfl) (by rw [List.getElem?_map, hm]; rfl) hh x y hx hy2
  by_cases eq : y = x
  · rw [eq, hx] at hy2
    have := Option.some.inj hy2
    rw [this] at lt
    omega
  · have := posL_take hx (a x hxl i hx).1 (List.mem_of_getElem? (i := y) (by rw [List.getElem?_take_of_lt (by omega)]; exact hy2))
    omega
theorem d1_iff {ms : List Cm} {R : List Nat} {x : Nat} {m : Cm} (hp : m.cl.part = true) (hl : lastF (ms.map Cm.cl) (R.take x) (-1) < ((ms.map Cm.cl).length : Int)) : (m.put = true ∨ m.cl.told = valOf' (ms.map Cm.cl) (lastF (ms.map Cm.cl) (R.take x) (-1))) ↔ ExD1 (ms.map Cm.cl) R x m.cl := by
  unfold ExD1 Cl.told
  have e1 : m.cl.put = m.put := rfl
  have e2 : m.cl.st = m.st := rfl
  rw [e1, e2]
  cases q : m.put
  · unfold Cl.part at hp
    rw [e1, e2, q] at hp
    have hs : m.st = 0 ∨ m.st = 76 := by simp at hp; exact hp.2
    rcases hs with s | s
    · rw [s]
      simp
      exact eq_comm
    · rw [s]
      have := valOf'_none hl
      simp
      rw [← this]
      exact eq_comm
  · simp
end Go.Proofs.Ytodmakcklacbfaa
