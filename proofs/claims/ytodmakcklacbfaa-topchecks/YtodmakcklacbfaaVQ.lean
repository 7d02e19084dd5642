import Derived.Test.YtodmakcklacbfaaNOneW
import Derived.Test.YtodmakcklacbfaaVSmall
namespace Go.Proofs.Ytodmakcklacbfaa
open Go.RowKit 


theorem ccells_len (ms : List Cm) : (ccells ms).length = ms.length * 11 := by
  induction ms with
  | nil => rfl
  | cons m ms ih =>
    have e : ccells (m :: ms) = m.cs.toList ++ ccells ms := by simp [ccells]
    have el : m.cs.toList.length = 11 := rfl
    rw [e, List.length_append, ih, el, List.length_cons]
    omega
theorem ccells_set : ∀ (ms : List Cm) (i : Nat) (m m' : Cm) (j : Nat) (u : Value), ms[i]? = some m → j < 11 → m'.cs = m.cs.setIfInBounds j u → ccells (ms.set i m') = (ccells ms).set (i * 11 + j) u
  | [], i, _, _, _, _, h, _, _ => by simp at h
  | a :: ms, i, m, m', j, u, h, hj, hc => by
    have e : ∀ (x : Cm) (l : List Cm), ccells (x :: l) = x.cs.toList ++ ccells l := fun x l => by simp [ccells]
    have el : ∀ x : Cm, x.cs.toList.length = 11 := fun x => rfl
    cases i with
    | zero =>
      have h : a = m := by simpa using h
      subst h
      rw [List.set_cons_zero, e, e, List.set_append_left _ _ (by rw [el]; omega), hc, Nat.zero_mul, Nat.zero_add, Array.toList_setIfInBounds]
    | succ i =>
      rw [List.set_cons_succ, e, e, List.set_append_right _ _ (by rw [el]; omega), el, show (i + 1) * 11 + j - 11 = i * 11 + j by omega]
      rw [ccells_set ms i m m' j u (by simpa using h) hj hc]
theorem ccells_plain (ms : List Cm) (v : Value) (hv : v ∈ ccells ms) : ∃ m ∈ ms, v ∈ m.cs.toList := by
  unfold ccells at hv
  exact List.mem_flatMap.1 hv
/-- A list of calls as what is appended. -/
theorem crd_src {w : World} {p : Option Addr} {n c : Nat} {ms : List Cm} (h : CRd w p n c ms) : Src Try.prog 11 27 (.slice p n c) n (ccells ms) w := by
  have pl : ∀ v ∈ ccells ms, ∃ m ∈ ms, v ∈ m.cs.toList := ccells_plain ms
  have some_case : ∀ ad : Addr, (∀ j u, (ccells ms)[j]? = some u → w.cell? (ad.add j) = some u) → Src Try.prog 11 27 (.slice (some ad) n c) n (ccells ms) w := fun ad hc =>
    Src.ofSlice w Try.underlying27 ad n c (ccells ms) (by rw [ccells_len, h.len]) hc (fun v hv => by
      obtain ⟨m, _, hv⟩ := pl v hv
      simp [Cm.cs] at hv
      rcases hv with rfl | rfl | rfl | rfl | rfl | rfl | rfl | rfl | rfl | rfl | rfl <;> rfl)
  by_cases h0 : 0 < n
  · obtain ⟨b, off, e, hc⟩ := h.cells h0
    subst e
    refine some_case _ (fun j u hj => ?_)
    have hl : j < ms.length * 11 := by
      rw [← ccells_len]
      exact (List.getElem?_eq_some_iff.1 hj).1
    have hq : j / 11 < ms.length := by omega
    have e2 : j = j / 11 * 11 + j % 11 := by omega
    rw [e2, ccells_get ms (j / 11) hq (j % 11) (by omega)] at hj
    rw [Addr.add_none]
    have := hc (j / 11) hq (j % 11) u hj
    rw [Nat.add_assoc, ← e2] at this
    exact this
  · have hn : n = 0 := by omega
    subst hn
    have hm : ms = [] := List.length_eq_zero_iff.1 h.len
    subst hm
    cases p with
    | none => exact Src.ofNil w Try.underlying27 c
    | some ad => exact some_case ad (fun j u hj => by simp [ccells] at hj)
theorem crd_take {w : World} {p : Option Addr} {n c : Nat} {ms : List Cm} (h : CRd w p n c ms) {i : Nat} (hi : i ≤ n) : CRd w p i c (ms.take i) := by
  have rm := h.room
  refine ⟨by rw [List.length_take, h.len]; omega, by omega, h.small, fun h0 => ?_, fun m hm => h.rd m (List.mem_of_mem_take hm)⟩
  obtain ⟨b, off, e, hc⟩ := h.cells (by omega)
  refine ⟨b, off, e, fun j hj k v hv => ?_⟩
  rw [List.getElem_take] at hv
  exact hc j _ k v hv
theorem crd_drop {w : World} {b off n c : Nat} {ms : List Cm} (h : CRd w (some ⟨b, off, none⟩) n c ms) {i : Nat} (hi : i ≤ n) : CRd w (some ⟨b, off + i * 11, none⟩) (n - i) (c - i) (ms.drop i) := by
  have rm := h.room
  have sm := h.small
  refine ⟨by rw [List.length_drop, h.len], by omega, by omega, fun h0 => ?_, fun m hm => h.rd m (List.mem_of_mem_drop hm)⟩
  obtain ⟨b', off', e, hc⟩ := h.cells (by omega)
  injection e with e
  injection e with e1 e2
  subst e1
  subst e2
  refine ⟨b, _, rfl, fun j hj k v hv => ?_⟩
  rw [List.getElem_drop] at hv
  have hj2 : i + j < ms.length := by rw [List.length_drop] at hj; omega
  have := hc (i + j) hj2 k v hv
  rw [show off + (i + j) * 11 + k = off + i * 11 + j * 11 + k by omega] at this
  exact this
/-- A list of calls of one's own, with what their bytes lie in. -/
structure QR (b0 : Nat) (w : World) (p : Option Addr) (k c : Nat) (ms : List Cm) : Prop where
  row : CRow b0 w p k c ms
  rd : ∀ m ∈ ms, Reads w m.va m.vn m.vc m.val
  ty : ∀ m ∈ ms, ∀ a, m.va = some a → ∃ C fr, w.heap[a.block]? = some (.cells C 5 fr)
theorem QR.crd {b0 : Nat} {w : World} {p : Option Addr} {k c : Nat} {ms : List Cm} (h : QR b0 w p k c ms) : CRd w p k c ms := h.row.rd h.rd
theorem QR.k0 {b0 : Nat} {w w' : World} {p : Option Addr} {k c : Nat} {ms : List Cm} (h : QR b0 w p k c ms) (K : Kept (fun _ => False) w w') : QR b0 w' p k c ms := by
  refine ⟨h.row.k0 K, fun m hm => Reads.kept K (h.rd m hm) (fun _ _ z => z), fun m hm a ha => ?_⟩
  obtain ⟨C, fr, hC⟩ := h.ty m hm a ha
  exact ⟨C, fr, K.get hC (fun z => z)⟩
theorem not_own {b0 : Nat} {w : World} {p : Option Addr} {k c : Nat} {ms : List Cm} (h : CRow b0 w p k c ms) {a : Addr} (ha : ∃ C fr, w.heap[a.block]? = some (.cells C 5 fr)) : ¬ blockOf p = some a.block := by
  intro z
  obtain ⟨C, fr, hC⟩ := ha
  obtain ⟨cs, hc⟩ := own_type h.row a.block z
  rw [hC] at hc
  simp at hc
theorem own_empty33 (w : World) : (w.alloc (.cells #[] 38)).ownsRow w.heap.size 38 11 (.slice (some ⟨w.heap.size, 0, none⟩) 0 0) 0 [] :=
  ⟨rfl, .inr ⟨w.heap.size, 0, #[], rfl, Nat.le_refl _, heap_alloc_new _ _, Nat.le_refl _, by unfold maxLen; omega, rfl, rfl⟩⟩
theorem QR.empty (w : World) : QR w.heap.size (w.alloc (.cells #[] 38)) (some ⟨w.heap.size, 0, none⟩) 0 0 [] := ⟨⟨rfl, own_empty33 w⟩, (fun _ h => absurd h (by simp)), (fun _ h => absurd h (by simp))⟩
/-- Calls are appended to a list of one's own. -/
theorem QR.grow {b0 : Nat} {w w9 W0 : World} {p p9 : Option Addr} {k c c9 n : Nat} {ms news : List Cm} (h : QR b0 w p k c ms) (hn : news.length = n) (rn : ∀ m ∈ news, Reads w m.va m.vn m.vc m.val) (tn : ∀ m ∈ news, ∀ a, m.va = some a → ∃ C fr, w.heap[a.block]? = some (.cells C 5 fr)) (ho : w9.ownsRow b0 38 11 (.slice p9 (k + n) c9) (k + n) (ccells ms ++ ccells news)) (hg : w.grownBy w9 (Value.slice p k c).ownBlock) (K0 : Kept (fun _ => False) W0 w) (hb : W0.heap.size ≤ b0) : QR b0 w9 p9 (k + n) c9 (ms ++ news) ∧ Kept (fun _ => False) W0 w9 := by
  have KG : Kept (fun j => blockOf p = some j) w w9 := (Kept.refl (fun j => blockOf p = some j) w).grown hg (fun j _ z => by rw [blockOf_own] at z; exact z)
  have all : ∀ x ∈ ms ++ news, Reads w x.va x.vn x.vc x.val ∧ ∀ a, x.va = some a → ∃ C fr, w.heap[a.block]? = some (.cells C 5 fr) := by
    intro x hx
    rcases List.mem_append.1 hx with z | z
    · exact ⟨h.rd x z, h.ty x z⟩
    · exact ⟨rn x z, tn x z⟩
  refine ⟨⟨⟨by rw [List.length_append, h.row.len, hn], by rw [ccells_append]; exact ho⟩, fun x hx => Reads.kept KG (all x hx).1 (fun a ha => not_own h.row ((all x hx).2 a ha)), fun x hx a ha => ?_⟩, Kept.own K0 KG (fun j z => by have := (own_lt h.row.row j z).1; omega)⟩
  obtain ⟨C, fr, hC⟩ := (all x hx).2 a ha
  exact ⟨C, fr, KG.get hC (not_own h.row ⟨C, fr, hC⟩)⟩
/-- A cell of a call is written. -/
theorem QR.cell {b0 : Nat} {w : World} {g k c : Nat} {ms : List Cm} (h : QR b0 w (some ⟨g, 0, none⟩) k c ms) {i : Nat} {m m' : Cm} (hm : ms[i]? = some m) (j : Nat) (hj : j < 11) (u : Value) (hcs : m'.cs = m.cs.setIfInBounds j u) (hv : m'.va = m.va ∧ m'.vn = m.vn ∧ m'.vc = m.vc ∧ m'.val = m.val) : QR b0 (w.setCell ⟨g, i * 11 + j, none⟩ u) (some ⟨g, 0, none⟩) k c (ms.set i m') := by
  have KG : Kept (fun x => x = g) w (w.setCell ⟨g, i * 11 + j, none⟩ u) := (Kept.refl (fun x => x = g) w).setCell (p := ⟨g, i * 11 + j, none⟩) (fun _ => rfl) u
  have sub : ∀ x ∈ ms.set i m', ∃ y ∈ ms, x.va = y.va ∧ x.vn = y.vn ∧ x.vc = y.vc ∧ x.val = y.val := by
    intro x hx
    rcases List.mem_or_eq_of_mem_set hx with z | z
    · exact ⟨x, z, rfl, rfl, rfl, rfl⟩
    · exact ⟨m, List.mem_of_getElem? hm, by rw [z]; exact hv⟩
  refine ⟨⟨by rw [List.length_set]; exact h.row.len, ?_⟩, fun x hx => ?_, fun x hx a ha => ?_⟩
  · rw [ccells_set ms i m m' j u hm hj hcs]
    refine ⟨by rw [List.length_set]; exact h.row.row.1, ?_⟩
    rcases h.row.row.2 with ⟨e0, _⟩ | ⟨g4, c4, cur, e4, hb, hg, hn, hl, hs, ht⟩
    · simp at e0
    · simp at e4
      obtain ⟨rfl, rfl⟩ := e4
      refine .inr ⟨g, c, cur.setIfInBounds (i * 11 + j) u, rfl, hb, set_heap hg _ u, hn, hl, by simpa using hs, ?_⟩
      rw [← ht, Array.toList_setIfInBounds, List.take_set]
  · obtain ⟨y, hy, e1, e2, e3, e4⟩ := sub x hx
    rw [e1, e2, e3, e4]
    exact Reads.kept KG (h.rd y hy) (fun a ha z => not_own h.row (h.ty y hy a ha) (by show some g = some a.block; rw [z]))
  · obtain ⟨y, hy, e1, _⟩ := sub x hx
    rw [e1] at ha
    obtain ⟨C, fr, hC⟩ := h.ty y hy a ha
    exact ⟨C, fr, KG.get hC (fun z => not_own h.row ⟨C, fr, hC⟩ (by show some g = some a.block; rw [z]))⟩
theorem QR.ptr {b0 : Nat} {w : World} {p : Option Addr} {k c : Nat} {ms : List Cm} (h : QR b0 w p k c ms) (h0 : 0 < k) : ∃ g, p = some ⟨g, 0, none⟩ ∧ b0 ≤ g ∧ ∃ cur, w.heap[g]? = some (.cells cur 38 (0, 0)) := by
  rcases h.row.row.2 with ⟨_, e1⟩ | ⟨g, cap, cur, e0, hb, hg, _⟩
  · omega
  · simp at e0
    exact ⟨g, e0.1, hb, cur, hg⟩
theorem QR.at {b0 : Nat} {w : World} {g k c : Nat} {ms : List Cm} (h : QR b0 w (some ⟨g, 0, none⟩) k c ms) {i : Nat} {m : Cm} (hm : ms[i]? = some m) (j : Nat) {v : Value} (hv : m.cs[j]? = some v) : w.cell? ⟨g, i * 11 + j, none⟩ = some v := by
  obtain ⟨hl, he⟩ := List.getElem?_eq_some_iff.1 hm
  have hk : 0 < k := by rw [← h.row.len]; omega
  obtain ⟨b, off, e, hc⟩ := h.crd.cells hk
  injection e with e
  injection e with e1 e2
  subst e1
  subst e2
  have := hc i hl j v (by rw [he]; exact hv)
  rw [Nat.zero_add] at this
  exact this
theorem src_calls {w : World} {b : Nat} (l : List Cm) (n : Nat) (hn : l.length = n) (h : w.heap[b]? = some (.cells (ccells l).toArray 38 (0, 0))) : Src Try.prog 11 27 (.slice (some ⟨b, 0, none⟩) n n) n (ccells l) w :=
  Src.ofSlice w Try.underlying27 ⟨b, 0, none⟩ n n (ccells l) (by rw [ccells_len, hn]) (fun j u hj => by
    rw [Addr.add_none, Nat.zero_add]
    refine cell_blk h j ?_
    simpa using hj) (fun v hv => by
      obtain ⟨m, _, hv⟩ := ccells_plain l v hv
      simp [Cm.cs] at hv
      rcases hv with rfl | rfl | rfl | rfl | rfl | rfl | rfl | rfl | rfl | rfl | rfl <;> rfl)
theorem bl_few {k n : Nat} (hk : k ≤ 10) (hn : n ≤ 10) : k + n ≤ maxLen ∧ ((k + n) + (k + n) / 4 + 192) * 112 ≤ 281474976710656 := by
  unfold maxLen
  omega
end Go.Proofs.Ytodmakcklacbfaa
