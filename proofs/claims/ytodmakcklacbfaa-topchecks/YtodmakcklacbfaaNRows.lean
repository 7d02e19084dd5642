import Derived.Test.YtodmakcklacbfaaNVal
namespace Go.Proofs.Ytodmakcklacbfaa
open Go.RowKit 

/-- A row of one-cell values. -/
def vrow (g : Nat → Value) (n : Nat) : Array Value := ((List.range n).map g).toArray
theorem vrow_get (g : Nat → Value) {n i : Nat} (h : i < n) : (vrow g n)[i]? = some (g i) := by
  unfold vrow
  rw [List.getElem?_toArray, List.getElem?_map, List.getElem?_range h]
  rfl
theorem vrow_set (g : Nat → Value) (n i : Nat) (v : Value) : (vrow g n).setIfInBounds i v = vrow (fun j => if j = i then v else g j) n := by
  unfold vrow
  rw [List.setIfInBounds_toArray]
  congr 1
  refine List.ext_getElem? fun j => ?_
  rw [List.getElem?_set]
  by_cases hj : j < n
  · rw [List.getElem?_map, List.getElem?_map, List.getElem?_range hj]
    by_cases e : i = j
    · subst e
      simp [hj]
    · rw [if_neg e]
      show some (g j) = some (if j = i then v else g j)
      rw [if_neg (fun z => e z.symm)]
  · have e1 : (List.map (fun j => if j = i then v else g j) (List.range n))[j]? = none := by
      rw [List.getElem?_eq_none]
      simp
      omega
    rw [e1]
    have e2 : (List.map g (List.range n))[j]? = none := by
      rw [List.getElem?_eq_none]
      simp
      omega
    by_cases e : i = j
    · rw [if_pos e, if_neg (by simp; omega)]
    · rw [if_neg e]; exact e2
theorem vrow_made (z : Value) (n : Nat) : madeCells #[z] n = vrow (fun _ => z) n := by
  refine Array.ext ?_ ?_
  · simp [vrow, madeCells]
  · intro i a b
    simp [vrow, madeCells, Nat.mod_one]
def u32v (A : Nat → Nat) : Nat → Value := fun i => .int .u32 ((A i : Nat) : Int)
def i64v (V : Nat → Int) : Nat → Value := fun i => .int .i64 (V i)
def put1 {α : Type} (A : Nat → α) (i : Nat) (x : α) : Nat → α := fun j => if j = i then x else A j
theorem u32v_put (A : Nat → Nat) (n i x : Nat) : (vrow (u32v A) n).setIfInBounds i (.int .u32 (x : Int)) = vrow (u32v (put1 A i x)) n := by
  rw [vrow_set]
  congr 1
  funext j
  unfold u32v put1
  by_cases e : j = i
  · rw [if_pos e, if_pos e]
  · rw [if_neg e, if_neg e]
theorem i64v_put (V : Nat → Int) (n i : Nat) (x : Int) : (vrow (i64v V) n).setIfInBounds i (.int .i64 x) = vrow (i64v (put1 V i x)) n := by
  rw [vrow_set]
  congr 1
  funext j
  unfold i64v put1
  by_cases e : j = i
  · rw [if_pos e, if_pos e]
  · rw [if_neg e, if_neg e]
/-- A finder that is being made. -/
structure NF (w : World) (fb n : Nat) (cp : Option Addr) (cc vb ab bb lb mb : Nat) (V : Nat → Int) (mw : Nat) (A B L : Nat → Nat) : Prop where
  blk : w.heap[fb]? = some (.cells #[.slice cp n cc, .slice (some ⟨vb, 0, none⟩) n n, .int .u32 ((mw : Nat) : Int), .slice (some ⟨ab, 0, none⟩) n n, .slice (some ⟨bb, 0, none⟩) n n, .slice (some ⟨lb, 0, none⟩) n n, .map (some mb)] 88 (0, 0))
  hv : w.heap[vb]? = some (.cells (vrow (i64v V) n) 3 (0, 0))
  ha : w.heap[ab]? = some (.cells (vrow (u32v A) n) 85 (0, 0))
  hb : w.heap[bb]? = some (.cells (vrow (u32v B) n) 85 (0, 0))
  hl : w.heap[lb]? = some (.cells (vrow (u32v L) n) 85 (0, 0))
  d1 : ab ≠ bb
  d2 : ab ≠ lb
  d3 : bb ≠ lb
  im : IsM w mb (fun _ => none)
  n24 : n ≤ 24
  lA : ∀ i, A i < 16777216
  lB : ∀ i, B i < 16777216
  lL : ∀ i, L i < 16777216
  lm : mw < 16777216
def NF.Own (fb vb ab bb lb mb b : Nat) : Prop := b = fb ∨ b = vb ∨ b = ab ∨ b = bb ∨ b = lb ∨ b = mb
section
variable {w w' : World} {fb n : Nat} {cp : Option Addr} {cc vb ab bb lb mb : Nat} {V : Nat → Int} {mw : Nat} {A B L : Nat → Nat}
theorem NF.k0 (h : NF w fb n cp cc vb ab bb lb mb V mw A B L) (K : Kept (fun _ => False) w w') : NF w' fb n cp cc vb ab bb lb mb V mw A B L :=
  ⟨K.get h.blk (fun z => z), K.get h.hv (fun z => z), K.get h.ha (fun z => z), K.get h.hb (fun z => z), K.get h.hl (fun z => z), h.d1, h.d2, h.d3, h.im.k0 K, h.n24, h.lA, h.lB, h.lL, h.lm⟩
theorem NF.nvb (h : NF w fb n cp cc vb ab bb lb mb V mw A B L) : fb ≠ vb ∧ fb ≠ ab ∧ fb ≠ bb ∧ fb ≠ lb ∧ vb ≠ ab ∧ vb ≠ bb ∧ vb ≠ lb := by
  have ne : ∀ {x y : Nat} {cs cs' : Array Value} {t t' : TypeId}, w.heap[x]? = some (.cells cs t (0, 0)) → w.heap[y]? = some (.cells cs' t' (0, 0)) → t ≠ t' → x ≠ y := by
    intro x y cs cs' t t' h1 h2 ht e
    subst e
    rw [h1] at h2
    have := Option.some.inj h2
    injection this with _ e
    exact ht e
  exact ⟨ne h.blk h.hv (by decide), ne h.blk h.ha (by decide), ne h.blk h.hb (by decide), ne h.blk h.hl (by decide), ne h.hv h.ha (by decide), ne h.hv h.hb (by decide), ne h.hv h.hl (by decide)⟩
theorem NF.nmb (h : NF w fb n cp cc vb ab bb lb mb V mw A B L) : fb ≠ mb ∧ vb ≠ mb ∧ ab ≠ mb ∧ bb ≠ mb ∧ lb ≠ mb := by
  have ne : ∀ {x : Nat} {cs : Array Value} {t : TypeId}, w.heap[x]? = some (.cells cs t (0, 0)) → x ≠ mb := by
    intro x cs t h1 e
    obtain ⟨D, ⟨es, clock, hb, _⟩, _⟩ := h.im.1
    rw [← e, h1] at hb
    cases hb
  exact ⟨ne h.blk, ne h.hv, ne h.ha, ne h.hb, ne h.hl⟩
theorem keptSet (w : World) (b i : Nat) (v : Value) : Kept (fun k => k = b) w (w.setCell ⟨b, i, none⟩ v) := (Kept.refl (fun k => k = b) w).setCell (p := ⟨b, i, none⟩) (fun _ => rfl) _
theorem IsM.set {M : Int → Option Unit} (h : IsM w mb M) {b i : Nat} {v : Value} (hn : b ≠ mb) : IsM (w.setCell ⟨b, i, none⟩ v) mb M := ⟨h.1.kept (keptSet w b i v) (fun z => hn z.symm), h.2⟩
theorem NF.setV (h : NF w fb n cp cc vb ab bb lb mb V mw A B L) (i : Nat) (x : Int) : NF (w.setCell ⟨vb, i, none⟩ (.int .i64 x)) fb n cp cc vb ab bb lb mb (put1 V i x) mw A B L := by
  have K := keptSet w vb i (.int .i64 x)
  obtain ⟨a1, a2, a3, a4, a5, a6, a7⟩ := h.nvb
  have hv := set_heap h.hv i (.int .i64 x)
  rw [i64v_put] at hv
  exact ⟨K.get h.blk a1, hv, K.get h.ha (fun z => a5 z.symm), K.get h.hb (fun z => a6 z.symm), K.get h.hl (fun z => a7 z.symm), h.d1, h.d2, h.d3, h.im.set h.nmb.2.1, h.n24, h.lA, h.lB, h.lL, h.lm⟩
theorem NF.setA (h : NF w fb n cp cc vb ab bb lb mb V mw A B L) (i x : Nat) (hx : x < 16777216) : NF (w.setCell ⟨ab, i, none⟩ (.int .u32 (x : Int))) fb n cp cc vb ab bb lb mb V mw (put1 A i x) B L := by
  have K := keptSet w ab i (.int .u32 (x : Int))
  obtain ⟨a1, a2, a3, a4, a5, a6, a7⟩ := h.nvb
  have ha := set_heap h.ha i (.int .u32 (x : Int))
  rw [u32v_put] at ha
  refine ⟨K.get h.blk a2, K.get h.hv a5, ha, K.get h.hb (fun z => h.d1 z.symm), K.get h.hl (fun z => h.d2 z.symm), h.d1, h.d2, h.d3, h.im.set h.nmb.2.2.1, h.n24, fun j => ?_, h.lB, h.lL, h.lm⟩
  unfold put1
  split
  · exact hx
  · exact h.lA j
theorem NF.setB (h : NF w fb n cp cc vb ab bb lb mb V mw A B L) (i x : Nat) (hx : x < 16777216) : NF (w.setCell ⟨bb, i, none⟩ (.int .u32 (x : Int))) fb n cp cc vb ab bb lb mb V mw A (put1 B i x) L := by
  have K := keptSet w bb i (.int .u32 (x : Int))
  obtain ⟨a1, a2, a3, a4, a5, a6, a7⟩ := h.nvb
  have hb := set_heap h.hb i (.int .u32 (x : Int))
  rw [u32v_put] at hb
  refine ⟨K.get h.blk a3, K.get h.hv a6, K.get h.ha h.d1, hb, K.get h.hl (fun z => h.d3 z.symm), h.d1, h.d2, h.d3, h.im.set h.nmb.2.2.2.1, h.n24, h.lA, fun j => ?_, h.lL, h.lm⟩
  unfold put1
  split
  · exact hx
  · exact h.lB j
theorem NF.setL (h : NF w fb n cp cc vb ab bb lb mb V mw A B L) (i x : Nat) (hx : x < 16777216) : NF (w.setCell ⟨lb, i, none⟩ (.int .u32 (x : Int))) fb n cp cc vb ab bb lb mb V mw A B (put1 L i x) := by
  have K := keptSet w lb i (.int .u32 (x : Int))
  obtain ⟨a1, a2, a3, a4, a5, a6, a7⟩ := h.nvb
  have hl := set_heap h.hl i (.int .u32 (x : Int))
  rw [u32v_put] at hl
  refine ⟨K.get h.blk a4, K.get h.hv a7, K.get h.ha h.d2, K.get h.hb h.d3, hl, h.d1, h.d2, h.d3, h.im.set h.nmb.2.2.2.2, h.n24, h.lA, h.lB, fun j => ?_, h.lm⟩
  unfold put1
  split
  · exact hx
  · exact h.lL j
theorem NF.setM (h : NF w fb n cp cc vb ab bb lb mb V mw A B L) (x : Nat) (hx : x < 16777216) : NF (w.setCell ⟨fb, 2, none⟩ (.int .u32 (x : Int))) fb n cp cc vb ab bb lb mb V x A B L := by
  have K := keptSet w fb 2 (.int .u32 (x : Int))
  obtain ⟨a1, a2, a3, a4, a5, a6, a7⟩ := h.nvb
  have hb := set_heap h.blk 2 (.int .u32 (x : Int))
  exact ⟨hb, K.get h.hv (fun z => a1 z.symm), K.get h.ha (fun z => a2 z.symm), K.get h.hb (fun z => a3 z.symm), K.get h.hl (fun z => a4 z.symm), h.d1, h.d2, h.d3, h.im.set h.nmb.1, h.n24, h.lA, h.lB, h.lL, hx⟩
end
end Go.Proofs.Ytodmakcklacbfaa
