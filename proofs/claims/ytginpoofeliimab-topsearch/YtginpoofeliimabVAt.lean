import Derived.Test.YtginpoofeliimabVAhead
import Derived.Test.YtginpoofeliimabNNew
namespace Go.Proofs.Ytginpoofeliimab
open Go.RowKit 

/-- The place of a call in an order, from 1 on. -/
def posL (b : List Nat) (i : Nat) : Int := if i ∈ b then ((b.idxOf i : Nat) : Int) + 1 else 0
theorem posL_out {b : List Nat} {i : Nat} (h : i ∉ b) : posL b i = 0 := by unfold posL; rw [if_neg h]
theorem posL_in {b : List Nat} {i : Nat} (h : i ∈ b) : 0 < posL b i := by unfold posL; rw [if_pos h]; omega
theorem posL_add {b : List Nat} {r i : Nat} (hr : r ∉ b) : posL (b ++ [r]) i = if i = r then (b.length : Int) + 1 else posL b i := by
  unfold posL
  by_cases e : i = r
  · subst e
    rw [if_pos rfl, if_pos (by simp), List.idxOf_append, if_neg hr]
    simp
  · rw [if_neg e]
    by_cases h : i ∈ b
    · rw [if_pos (List.mem_append_left _ h), if_pos h, List.idxOf_append, if_pos h]
    · rw [if_neg h, if_neg]
      intro z
      rcases List.mem_append.1 z with z | z
      · exact h z
      · exact e (List.mem_singleton.1 z)
theorem posL_take {R : List Nat} {x i j : Nat} (hi : R[x]? = some i) (hn : i ∉ R.take x) (hj : j ∈ R.take x) : posL R j < posL R i := by
  obtain ⟨hx, he⟩ := List.getElem?_eq_some_iff.1 hi
  have e : R = R.take x ++ i :: R.drop (x + 1) := by
    conv => lhs; rw [← List.take_append_drop x R, List.drop_eq_getElem_cons hx, he]
  have hl : (R.take x).length = x := by rw [List.length_take]; omega
  unfold posL
  rw [if_pos (List.mem_of_mem_take hj), if_pos (List.mem_of_getElem? hi)]
  have h1 : R.idxOf i = x := by
    rw [e, List.idxOf_append, if_neg hn, hl]
    simp
  have h2 : R.idxOf j < x := by
    rw [e, List.idxOf_append, if_pos hj]
    have := List.idxOf_lt_length_of_mem hj
    omega
  omega
def posV (n : Nat) (b : List Nat) : List Value := (List.range n).map fun i => Value.int .i64 (posL b i)
theorem posV_get (n : Nat) (b : List Nat) (i : Nat) : (posV n b)[i]? = if i < n then some (.int .i64 (posL b i)) else none := by
  unfold posV
  rw [List.getElem?_map]
  by_cases h : i < n
  · rw [if_pos h, List.getElem?_range h]
    rfl
  · rw [if_neg h, List.getElem?_eq_none (by simp; omega)]
    rfl
theorem posV_set {n : Nat} {b : List Nat} {r : Nat} (hr : r ∉ b) : (posV n b).set r (.int .i64 ((b.length : Int) + 1)) = posV n (b ++ [r]) := by
  refine List.ext_getElem? fun j => ?_
  rw [List.getElem?_set, posV_get, posV_get]
  have hl : (posV n b).length = n := by simp [posV]
  by_cases e : r = j
  · subst e
    rw [if_pos rfl, hl]
    split
    · rw [posL_add hr, if_pos rfl]
    · rfl
  · have e2 : posL (b ++ [r]) j = posL b j := by rw [posL_add hr, if_neg (fun z => e z.symm)]
    rw [if_neg e, e2]
/-- The places, as they lie in memory. -/
structure AT (w0 wr : World) (g n : Nat) (b : List Nat) : Prop where
  row : wr.ownsRow w0.heap.size 3 1 (.slice (some ⟨g, 0, none⟩) n n) n (posV n b)
  kept : Kept (fun _ => False) w0 wr
theorem AT.k0 {w0 wr w' : World} {g n : Nat} {b : List Nat} (h : AT w0 wr g n b) (K : Kept (fun _ => False) wr w') : AT w0 w' g n b := ⟨K.owns h.row (fun _ _ z => z), h.kept.trans K (fun _ _ z => z)⟩
theorem AT.at {w0 wr : World} {g n : Nat} {b : List Nat} (h : AT w0 wr g n b) {i : Nat} (hi : i < n) : wr.cell? ⟨g, i, none⟩ = some (.int .i64 (posL b i)) ∧ wr.frozen? ⟨g, i, none⟩ = false := by
  obtain ⟨cs, hg⟩ := own_type h.row g rfl
  have hc := h.row.cells (g := g) rfl i (.int .i64 (posL b i)) (by rw [posV_get, if_pos hi])
  rw [Addr.add_none, Nat.zero_add] at hc
  exact ⟨hc, soft_blk hg i⟩
theorem AT.put {w0 wr : World} {g n : Nat} {b : List Nat} (h : AT w0 wr g n b) {r : Nat} (hr : r ∉ b) : AT w0 (wr.setCell ⟨g, r, none⟩ (.int .i64 ((b.length : Int) + 1))) g n (b ++ [r]) := by
  have hg := (own_lt h.row g rfl).1
  refine ⟨?_, kept_set h.kept hg _ _⟩
  rw [← posV_set hr]
  exact owns_set h.row r _
theorem AT.start (w : World) (n : Nat) (hn : n ≤ maxLen) {C : Array Value} (hC : C.toList = posV n []) : AT w (w.alloc (.cells C 3)) w.heap.size n [] := by
  have hl : C.size = n := by rw [← Array.length_toList, hC]; simp [posV]
  refine ⟨⟨by simp [posV], .inr ⟨w.heap.size, n, C, rfl, Nat.le_refl _, alloc_new _ _, Nat.le_refl _, hn, by rw [hl, Nat.mul_one], ?_⟩⟩, (Kept.refl _ _).alloc _⟩
  rw [hC, List.take_of_length_le (by simp [posV])]
end Go.Proofs.Ytginpoofeliimab
