import Derived.Test.YtonfefhegghapaaDoorTOp
namespace Go.Proofs.YtonfefhegghapaaDoor
open Go.RowKit Go.ChangeShapes Go.WideShapes Go.ChangeAt Go.Deep

theorem two_of {l : List Value} {j : Nat} {a b : Value} (h : (l.drop (j * 2)).take 2 = [a, b]) : l[j * 2]? = some a ∧ l[j * 2 + 1]? = some b := by
  have h0 := congrArg (·[0]?) h
  have h1 := congrArg (·[1]?) h
  simp [List.getElem?_drop] at h0 h1
  exact ⟨h0, h1⟩
set_option maxRecDepth 100000 in
theorem fm_of {W : World} (h : laidMet Tryd.prog [("sherd/script.forms", Rows.laid_sherd_script_forms)] W) : FM W := by
  obtain ⟨ps, ⟨g', t', cs, fuel, p, q, hg', ht', hvar, hd, _, _⟩, _⟩ := h
  obtain rfl := Option.some.inj (Tryd.gForms.symm.trans hg')
  obtain rfl := Option.some.inj (Tryd.gFormsType.symm.trans ht')
  have k := cells_of_forms (fs := [([], 0), ([112, 117, 116], 13), ([103, 101, 116], 5), ([99, 97, 110, 99, 101, 108], 1), ([116, 105, 99, 107], 1), ([115, 116, 111, 112], 1), ([100, 101, 108, 105, 118, 101, 114], 1), ([100, 114, 111, 112], 1), ([100, 111, 117, 98, 108, 101], 1), ([98, 117, 114, 115, 116], 19), ([99, 117, 116], 3), ([108, 111, 115, 101], 1), ([99, 114, 97, 115, 104], 17), ([115, 116, 97, 114, 116], 1), ([100, 105, 101], 19), ([99, 111, 109, 112, 97, 99, 116], 1), ([114, 111, 117, 110, 100], 18)]) hd
  have c : ∀ i v, cs.toList[i]? = some v → W.cell? ⟨0, i, none⟩ = some v := fun i v hv => by
    have := World.var?_cell Tryd.gForms hvar i
    rw [this, ← Array.getElem?_toList]
    exact hv
  intro i v hv
  have hi : i < 34 := (Array.getElem?_eq_some_iff.1 hv).1
  refine c i v ?_
  obtain rfl | rfl | rfl | rfl | rfl | rfl | rfl | rfl | rfl | rfl | rfl | rfl | rfl | rfl | rfl | rfl | rfl | rfl | rfl | rfl | rfl | rfl | rfl | rfl | rfl | rfl | rfl | rfl | rfl | rfl | rfl | rfl | rfl | rfl : i = 0 ∨ i = 1 ∨ i = 2 ∨ i = 3 ∨ i = 4 ∨ i = 5 ∨ i = 6 ∨ i = 7 ∨ i = 8 ∨ i = 9 ∨ i = 10 ∨ i = 11 ∨ i = 12 ∨ i = 13 ∨ i = 14 ∨ i = 15 ∨ i = 16 ∨ i = 17 ∨ i = 18 ∨ i = 19 ∨ i = 20 ∨ i = 21 ∨ i = 22 ∨ i = 23 ∨ i = 24 ∨ i = 25 ∨ i = 26 ∨ i = 27 ∨ i = 28 ∨ i = 29 ∨ i = 30 ∨ i = 31 ∨ i = 32 ∨ i = 33 := by omega
  · rw [← hv]; exact (two_of (k 0 _ rfl)).1
  · rw [← hv]; exact (two_of (k 0 _ rfl)).2
  · rw [← hv]; exact (two_of (k 1 _ rfl)).1
  · rw [← hv]; exact (two_of (k 1 _ rfl)).2
  · rw [← hv]; exact (two_of (k 2 _ rfl)).1
  · rw [← hv]; exact (two_of (k 2 _ rfl)).2
  · rw [← hv]; exact (two_of (k 3 _ rfl)).1
  · rw [← hv]; exact (two_of (k 3 _ rfl)).2
  · rw [← hv]; exact (two_of (k 4 _ rfl)).1
  · rw [← hv]; exact (two_of (k 4 _ rfl)).2
  · rw [← hv]; exact (two_of (k 5 _ rfl)).1
  · rw [← hv]; exact (two_of (k 5 _ rfl)).2
  · rw [← hv]; exact (two_of (k 6 _ rfl)).1
  · rw [← hv]; exact (two_of (k 6 _ rfl)).2
  · rw [← hv]; exact (two_of (k 7 _ rfl)).1
  · rw [← hv]; exact (two_of (k 7 _ rfl)).2
  · rw [← hv]; exact (two_of (k 8 _ rfl)).1
  · rw [← hv]; exact (two_of (k 8 _ rfl)).2
  · rw [← hv]; exact (two_of (k 9 _ rfl)).1
  · rw [← hv]; exact (two_of (k 9 _ rfl)).2
  · rw [← hv]; exact (two_of (k 10 _ rfl)).1
  · rw [← hv]; exact (two_of (k 10 _ rfl)).2
  · rw [← hv]; exact (two_of (k 11 _ rfl)).1
  · rw [← hv]; exact (two_of (k 11 _ rfl)).2
  · rw [← hv]; exact (two_of (k 12 _ rfl)).1
  · rw [← hv]; exact (two_of (k 12 _ rfl)).2
  · rw [← hv]; exact (two_of (k 13 _ rfl)).1
  · rw [← hv]; exact (two_of (k 13 _ rfl)).2
  · rw [← hv]; exact (two_of (k 14 _ rfl)).1
  · rw [← hv]; exact (two_of (k 14 _ rfl)).2
  · rw [← hv]; exact (two_of (k 15 _ rfl)).1
  · rw [← hv]; exact (two_of (k 15 _ rfl)).2
  · rw [← hv]; exact (two_of (k 16 _ rfl)).1
  · rw [← hv]; exact (two_of (k 16 _ rfl)).2
end Go.Proofs.YtonfefhegghapaaDoor
