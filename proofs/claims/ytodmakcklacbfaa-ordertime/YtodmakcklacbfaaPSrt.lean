import Derived.Test.YtodmakcklacbfaaPLayJ
import Derived.Shelf.SlSortCmp.Kit1
namespace Go.Proofs.Ytodmakcklacbfaa
open Go.RowKit Go.Shelf Go.Lib Go.Sort

/-- A number of a call. -/
def encF {n : Nat} (i : Fin n) : Value := .int .i64 ((i.val : Nat) : Int)
theorem sort_kept {α : Type} [Inhabited α] (enc : α → Value) (w : World) (blk off m : Nat) (dk : Array α) (os : Array Obj) : Kept (fun k => k = blk) w (sortWorld enc w blk off m dk os) := by
  refine ⟨rfl, rfl, rfl, ?_, fun k hk hne => ?_⟩
  · unfold sortWorld putRow mapBlock grow
    simp
  · unfold sortWorld putRow mapBlock grow
    simp only [heap_ahead]
    rw [Array.getElem?_append_left (by rw [Array.size_modify]; exact hk), Array.getElem?_modify, if_neg (fun e => hne e.symm)]
theorem sort_heap {α : Type} [Inhabited α] (enc : α → Value) (w : World) (blk off m : Nat) (dk : Array α) (os : Array Obj) {cur : Array Value} {t : TypeId} (hg : w.heap[blk]? = some (.cells cur t (0, 0))) : (sortWorld enc w blk off m dk os).heap[blk]? = some (.cells (putCells enc off dk cur) t (0, 0)) := by
  have hlt := block_lt hg
  unfold sortWorld putRow mapBlock grow
  simp only [heap_ahead]
  rw [Array.getElem?_append_left (by rw [Array.size_modify]; exact hlt), Array.getElem?_modify, if_pos rfl, hg]
  rfl
theorem kor_lt {a b r : Int} : kOrI (kIcmp a b) r < 0 ↔ a < b ∨ (a = b ∧ r < 0) := by
  unfold kOrI kIcmp
  by_cases h : a < b
  · simp [h]
  · by_cases h2 : b < a
    · simp [h, h2]; omega
    · have : a = b := by omega
      subst this
      simp
theorem kicmp_lt {a b : Int} : kIcmp a b < 0 ↔ a < b := by
  unfold kIcmp
  by_cases h : a < b
  · simp [h]
  · by_cases h2 : b < a
    · simp [h, h2]
    · simp [h, h2]
theorem kor2_lt {a b c d r : Int} : kOrI (kTcmp a b c d) r < 0 ↔ a < c ∨ (a = c ∧ (b < d ∨ (b = d ∧ r < 0))) := by
  have e : kOrI (kTcmp a b c d) r = kOrI (kIcmp a c) (kOrI (kIcmp b d) r) := by
    unfold kTcmp kOrI
    by_cases h : kIcmp a c = 0
    · simp [h]
    · simp [h]
  rw [e, kor_lt, kor_lt]
/-- By their beginnings, as the calls stand. -/
def FromLt (ms : List Cm) (i j : Nat) : Prop := ∀ a b, ms[i]? = some a → ms[j]? = some b → a.frm < b.frm ∨ (a.frm = b.frm ∧ i < j)
def TagLt (ms : List Cm) (i j : Nat) : Prop := ∀ a b, ms[i]? = some a → ms[j]? = some b → a.tx < b.tx ∨ (a.tx = b.tx ∧ (a.ty < b.ty ∨ (a.ty = b.ty ∧ (a.frm < b.frm ∨ (a.frm = b.frm ∧ i < j)))))
def cfF (ms : List Cm) (x y : Fin ms.length) : Int := byFromI x y (ms[x]).frm (ms[y]).frm
def cfT (ms : List Cm) (x y : Fin ms.length) : Int := byTagI x y (ms[x]) (ms[y])
theorem cfF_lt {ms : List Cm} (x y : Fin ms.length) : ltOf (cfF ms) x y = true ↔ FromLt ms x y := by
  unfold ltOf cfF byFromI FromLt
  rw [decide_eq_true_iff, kor_lt, kicmp_lt]
  constructor
  · intro h a b ha hb
    have ea : ms[x] = a := by simpa using ha
    have eb : ms[y] = b := by simpa using hb
    rw [ea, eb] at h
    omega
  · intro h
    have := h _ _ (List.getElem?_eq_getElem x.2) (List.getElem?_eq_getElem y.2)
    simp only [Fin.getElem_fin] at this ⊢
    omega
theorem cfT_lt {ms : List Cm} (x y : Fin ms.length) : ltOf (cfT ms) x y = true ↔ TagLt ms x y := by
  unfold ltOf cfT byTagI byFromI TagLt
  rw [decide_eq_true_iff, kor2_lt, kor_lt, kicmp_lt]
  constructor
  · intro h a b ha hb
    have ea : ms[x] = a := by simpa using ha
    have eb : ms[y] = b := by simpa using hb
    rw [ea, eb] at h
    omega
  · intro h
    have := h _ _ (List.getElem?_eq_getElem x.2) (List.getElem?_eq_getElem y.2)
    simp only [Fin.getElem_fin] at this ⊢
    omega
theorem swoF (ms : List Cm) : SWO (ltOf (cfF ms)) := by
  have at' : ∀ x y : Fin ms.length, ltOf (cfF ms) x y = true ↔ (ms[x]).frm < (ms[y]).frm ∨ ((ms[x]).frm = (ms[y]).frm ∧ x.val < y.val) := fun x y => by
    rw [cfF_lt]
    exact ⟨fun h => h _ _ (List.getElem?_eq_getElem x.2) (List.getElem?_eq_getElem y.2), fun h a b ha hb => by
      have ea : ms[x] = a := by simpa using ha
      have eb : ms[y] = b := by simpa using hb
      rw [ea, eb] at h
      exact h⟩
  refine ⟨fun x => ?_, fun x y z h1 h2 => ?_, fun x y z h1 h2 => ?_⟩
  · rw [Bool.eq_false_iff]
    intro h
    rw [at'] at h
    omega
  · rw [at'] at *
    omega
  · rw [Bool.eq_false_iff, ne_eq, at'] at *
    omega
theorem swoT (ms : List Cm) : SWO (ltOf (cfT ms)) := by
  have at' : ∀ x y : Fin ms.length, ltOf (cfT ms) x y = true ↔ (ms[x]).tx < (ms[y]).tx ∨ ((ms[x]).tx = (ms[y]).tx ∧ ((ms[x]).ty < (ms[y]).ty ∨ ((ms[x]).ty = (ms[y]).ty ∧ ((ms[x]).frm < (ms[y]).frm ∨ ((ms[x]).frm = (ms[y]).frm ∧ x.val < y.val))))) := fun x y => by
    rw [cfT_lt]
    exact ⟨fun h => h _ _ (List.getElem?_eq_getElem x.2) (List.getElem?_eq_getElem y.2), fun h a b ha hb => by
      have ea : ms[x] = a := by simpa using ha
      have eb : ms[y] = b := by simpa using hb
      rw [ea, eb] at h
      exact h⟩
  refine ⟨fun x => ?_, fun x y z h1 h2 => ?_, fun x y z h1 h2 => ?_⟩
  · rw [Bool.eq_false_iff]
    intro h
    rw [at'] at h
    omega
  · rw [at'] at *
    omega
  · rw [Bool.eq_false_iff, ne_eq, at'] at *
    omega
theorem laysF {w0 w : World} {p : Option Addr} {n c : Nat} {ms : List Cm} [Inhabited (Fin ms.length)] (h : CRd w0 p n c ms) {CB : Nat} (c1 : w0.cell? ⟨CB, 0, none⟩ = some (.slice p n c)) (K : Kept (fun _ => False) w0 w) {blk : Nat} (hb : w0.heap.size ≤ blk) (off size : Nat) : CmpLays1 Try.prog 29 #[.pointer (some ⟨CB, 0, none⟩)] encF (cfF ms) blk off size w := fun m os dk _ x y => by
  have K2 : Kept (fun _ => False) w0 (sortWorld encF w blk off m dk os) := K.trans (sort_kept encF w blk off m dk os) (fun j hj z => by have z : j = blk := z; omega)
  exact oByFrom (h.k0 K2) (K2.cell c1 (fun z => z)) (List.getElem?_eq_getElem x.2) (List.getElem?_eq_getElem y.2)
theorem laysT {w0 w : World} {p : Option Addr} {n c : Nat} {ms : List Cm} [Inhabited (Fin ms.length)] (h : CRd w0 p n c ms) {CB FB : Nat} (c1 : w0.cell? ⟨CB, 0, none⟩ = some (.slice p n c)) (c2 : w0.cell? ⟨FB, 0, none⟩ = some (.func (.func 29) #[] #[.pointer (some ⟨CB, 0, none⟩)])) (K : Kept (fun _ => False) w0 w) {blk : Nat} (hb : w0.heap.size ≤ blk) (off size : Nat) : CmpLays1 Try.prog 32 #[.pointer (some ⟨CB, 0, none⟩), .pointer (some ⟨FB, 0, none⟩)] encF (cfT ms) blk off size w := fun m os dk _ x y => by
  have K2 : Kept (fun _ => False) w0 (sortWorld encF w blk off m dk os) := K.trans (sort_kept encF w blk off m dk os) (fun j hj z => by have z : j = blk := z; omega)
  exact oByTag (h.k0 K2) (K2.cell c1 (fun z => z)) (K2.cell c2 (fun z => z)) (List.getElem?_eq_getElem x.2) (List.getElem?_eq_getElem y.2)
end Go.Proofs.Ytodmakcklacbfaa
