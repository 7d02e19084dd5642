import Derived.Test.YtodmakcklacbfaaPMadeP
import Derived.Test.YtodmakcklacbfaaPTime
namespace Go.Proofs.Ytodmakcklacbfaa
open Go.RowKit Go.Shelf Go.Lib Go.Sort

theorem IRd.src {w : World} {q : Option Addr} {k kc : Nat} {R : List Nat} (h : IRd w q k kc (R.map fun r : Nat => (r : Int))) : Src Try.prog 1 22 (.slice q k kc) k (intsN R) w := by
  have hl : (intsN R).length = k * 1 := by
    have := h.len
    rw [List.length_map] at this
    unfold intsN
    rw [List.length_map, this]
    omega
  have h1 : ∀ v ∈ intsN R, v.oneCell' = true := fun v hv => by
    obtain ⟨x, _, rfl⟩ := List.mem_map.1 hv
    rfl
  by_cases hk : 0 < k
  · obtain ⟨b, off, rfl, hc⟩ := h.cells hk
    refine Src.ofSlice w Try.underlying22 _ k kc (intsN R) hl (fun j u hj => ?_) h1
    rw [Addr.add_none]
    unfold intsN at hj
    rw [List.getElem?_map] at hj
    obtain ⟨r, hr, rfl⟩ := Option.map_eq_some_iff.1 hj
    exact hc j _ (by rw [List.getElem?_map, hr]; rfl)
  · have h0 : k = 0 := by omega
    subst h0
    have hR : intsN R = [] := List.length_eq_zero_iff.1 (by rw [hl])
    rw [hR]
    cases q with
    | some ad => exact Src.ofSlice w Try.underlying22 ad 0 kc [] rfl (fun j u hj => by simp at hj) (fun v hv => by simp at hv)
    | none => exact Src.ofNil w Try.underlying22 kc
theorem own_empty (w : World) (t : TypeId) : (w.alloc (.cells #[] t)).ownsRow w.heap.size t 1 (.slice (some ⟨w.heap.size, 0, none⟩) 0 0) 0 [] :=
  ⟨rfl, .inr ⟨w.heap.size, 0, #[], rfl, Nat.le_refl _, heap_alloc_new _ _, Nat.le_refl _, by unfold maxLen; omega, rfl, rfl⟩⟩
theorem ccells_set : ∀ (ms : List Cm) (i : Nat) (m m' : Cm) (j : Nat) (u : Value), ms[i]? = some m → j < 11 → m'.cs = m.cs.setIfInBounds j u → ccells (ms.set i m') = (ccells ms).set (i * 11 + j) u
  | [], i, _, _, _, _, h, _, _ => by simp at h
  | a :: ms, i, m, m', j, u, h, hj, hc => by
    have e : ∀ (x : Cm) (l : List Cm), ccells (x :: l) = x.cs.toList ++ ccells l := fun x l => by simp [ccells]
    have el : ∀ x : Cm, x.cs.toList.length = 11 := fun x => rfl
    cases i with
    | zero =>
      have h : a = m := by simpa using h
      subst h
      rw [List.set_cons_zero, e, e, List.set_append_left _ _ (by rw [el]; omega), hc, Nat.zero_mul, Nat.zero_add, Array.toList_setIfInBounds]
    | succ i =>
      rw [List.set_cons_succ, e, e, List.set_append_right _ _ (by rw [el]; omega), el, show (i + 1) * 11 + j - 11 = i * 11 + j by omega]
      rw [ccells_set ms i m m' j u (by simpa using h) hj hc]
theorem CRow.cell {b0 : Nat} {w : World} {g k c : Nat} {ms : List Cm} (h : CRow b0 w (some ⟨g, 0, none⟩) k c ms) {i : Nat} {m m' : Cm} (hm : ms[i]? = some m) (j : Nat) (hj : j < 11) (u : Value) (hcs : m'.cs = m.cs.setIfInBounds j u) : CRow b0 (w.setCell ⟨g, i * 11 + j, none⟩ u) (some ⟨g, 0, none⟩) k c (ms.set i m') := by
  refine ⟨by rw [List.length_set]; exact h.len, ?_⟩
  rw [ccells_set ms i m m' j u hm hj hcs]
  refine ⟨by rw [List.length_set]; exact h.row.1, ?_⟩
  rcases h.row.2 with ⟨e0, _⟩ | ⟨g4, c4, cur, e4, hb, hg, hn, hl, hs, ht⟩
  · simp at e0
  · simp at e4
    obtain ⟨rfl, rfl⟩ := e4
    refine .inr ⟨g, c, cur.setIfInBounds (i * 11 + j) u, rfl, hb, set_heap hg _ u, hn, hl, by simpa using hs, ?_⟩
    rw [← ht, Array.toList_setIfInBounds, List.take_set]
theorem CRow.ptr {b0 : Nat} {w : World} {p : Option Addr} {k c : Nat} {ms : List Cm} (h : CRow b0 w p k c ms) (h0 : 0 < k) : ∃ g, p = some ⟨g, 0, none⟩ ∧ b0 ≤ g ∧ ∃ cur, w.heap[g]? = some (.cells cur 38 (0, 0)) := by
  rcases h.row.2 with ⟨_, e1⟩ | ⟨g, cap, cur, e0, hb, hg, _⟩
  · omega
  · simp at e0
    exact ⟨g, e0.1, hb, cur, hg⟩
/-- On the way through the order by tags. -/
structure MS (w : World) (v : Md) (k : Nat) (p : Option Addr) (c : Nat) (L : List Nat) (q : Option Addr) (kb cb : Nat) (po : Option Addr) (co : Nat) (b1 LB : Nat) (g : Nat) (j : Nat) (wr : World) : Prop where
  calls : CRow b1 wr p k c (v.hist k)
  by_ : NRow b1 wr q kb cb L
  nums : NRow b1 wr po k co (List.range k)
  last : wr.heap[LB]? = some (.cells #[.int .i64 (tgx g), .int .i64 (tgy g)] 35 (0, 0))
  rise : ∀ x ∈ L.drop j, g ≤ v.gr x
  kept : Kept (fun _ => False) w wr
  lb : w.heap.size ≤ LB
  b1 : w.heap.size ≤ b1
theorem MS.k0 {w : World} {v : Md} {k : Nat} {p : Option Addr} {c : Nat} {L : List Nat} {q : Option Addr} {kb cb : Nat} {po : Option Addr} {co : Nat} {b1 LB g j : Nat} {wr w' : World} (h : MS w v k p c L q kb cb po co b1 LB g j wr) (K : Kept (fun _ => False) wr w') : MS w v k p c L q kb cb po co b1 LB g j w' :=
  ⟨h.calls.k0 K, h.by_.k0 K, h.nums.k0 K, K.get h.last (fun z => z), h.rise, h.kept.trans K (fun _ _ z => z), h.lb, h.b1⟩
theorem MS.skip {w : World} {v : Md} {k : Nat} {p : Option Addr} {c : Nat} {L : List Nat} {q : Option Addr} {kb cb : Nat} {po : Option Addr} {co : Nat} {b1 LB g j : Nat} {wr : World} (h : MS w v k p c L q kb cb po co b1 LB g j wr) : MS w v k p c L q kb cb po co b1 LB g (j + 1) wr :=
  ⟨h.calls, h.by_, h.nums, h.last, fun x hx => h.rise x (by rw [← List.drop_drop] at hx; exact List.mem_of_mem_drop hx), h.kept, h.lb, h.b1⟩
theorem MS.own {w : World} {v : Md} {k : Nat} {p : Option Addr} {c : Nat} {L : List Nat} {q : Option Addr} {kb cb : Nat} {po : Option Addr} {co : Nat} {b1 LB g j : Nat} {wr : World} (h : MS w v k p c L q kb cb po co b1 LB g j wr) : (¬ blockOf p = some LB) ∧ (¬ blockOf q = some LB) ∧ ¬ blockOf po = some LB := by
  refine ⟨fun z => ?_, fun z => ?_, fun z => ?_⟩
  · obtain ⟨cs, hc⟩ := own_type h.calls.row LB z
    rw [h.last] at hc
    simp at hc
  · obtain ⟨cs, hc⟩ := own_type h.by_.row LB z
    rw [h.last] at hc
    simp at hc
  · obtain ⟨cs, hc⟩ := own_type h.nums.row LB z
    rw [h.last] at hc
    simp at hc
theorem MS.step {w : World} {v : Md} {k : Nat} {p : Option Addr} {c : Nat} {L : List Nat} {q : Option Addr} {kb cb : Nat} {po : Option Addr} {co : Nat} {b1 LB g j : Nat} {wr : World} (h : MS w v k p c L q kb cb po co b1 LB g j wr) (rel : L.Pairwise v.Rel) {x : Nat} (hx : L[j]? = some x) : MS w v k p c L q kb cb po co b1 LB (v.gr x) (j + 1) ((wr.setCell ⟨LB, 0, none⟩ (.int .i64 (tgx (v.gr x)))).setCell ⟨LB, 1, none⟩ (.int .i64 (tgy (v.gr x)))) := by
  have K : Kept (fun y => y = LB) wr ((wr.setCell ⟨LB, 0, none⟩ (.int .i64 (tgx (v.gr x)))).setCell ⟨LB, 1, none⟩ (.int .i64 (tgy (v.gr x)))) := ((Kept.refl (fun y => y = LB) wr).setCell (p := ⟨LB, 0, none⟩) (fun _ => rfl) _).setCell (p := ⟨LB, 1, none⟩) (fun _ => rfl) _
  obtain ⟨o1, o2, o3⟩ := h.own
  have lb := h.lb
  refine ⟨⟨h.calls.len, K.owns h.calls.row (fun y z e => o1 (by rw [blockOf_own] at z; rw [z]; exact congrArg some e))⟩, h.by_.off K (fun y z e => o2 (by rw [z]; exact congrArg some e)), h.nums.off K (fun y z e => o3 (by rw [z]; exact congrArg some e)), set_heap (set_heap h.last 0 _) 1 _, fun y hy => ?_, h.kept.trans K (fun y hy z => by have z : y = LB := z; omega), lb, h.b1⟩
  obtain ⟨i, hi, e⟩ := List.getElem_of_mem hy
  rw [List.getElem_drop] at e
  rw [List.length_drop] at hi
  obtain ⟨h1, h2⟩ := List.getElem?_eq_some_iff.1 hx
  have := (List.pairwise_iff_getElem.1 rel) j (j + 1 + i) h1 (by omega) (by omega)
  rw [h2, e] at this
  exact this.le
theorem own_grown {w w9 : World} {t : TypeId} (hg : (w.alloc (.cells #[] t)).grownBy w9 (Value.slice (some ⟨w.heap.size, 0, none⟩) 0 0).ownBlock) : Kept (fun _ => False) w w9 := by
  have KG : Kept (fun j => j = w.heap.size) (w.alloc (.cells #[] t)) w9 := (Kept.refl _ _).grown hg (fun j _ z => by rw [blockOf_own] at z; exact (Option.some.inj z).symm)
  exact ((Kept.refl (fun _ => False) w).alloc _).trans KG (fun j hj z => by have z : j = w.heap.size := z; omega)
theorem own_zero {w9 : World} {b : Nat} {t : TypeId} {p : Option Addr} {k c : Nat} {xs : List Value} (h : w9.ownsRow b t 1 (.slice p (0 + k) c) (0 + k) ([] ++ xs)) : w9.ownsRow b t 1 (.slice p k c) k xs := by
  rw [Nat.zero_add] at h
  exact h
theorem row_two {b0 : Nat} {w w9 : World} {p p9 : Option Addr} {k n c c9 : Nat} {R S : List Nat} (h : NRow b0 w p k c R) (hs : S.length = n) (ho : w9.ownsRow b0 3 1 (.slice p9 (k + n) c9) (k + n) (intsN R ++ intsN S)) : NRow b0 w9 p9 (k + n) c9 (R ++ S) := ⟨by rw [List.length_append, h.len, hs], by rw [intsN_append]; exact ho⟩
theorem K_two {w0 w w9 : World} {p : Option Addr} {k c : Nat} {R : List Nat} (h : NRow w0.heap.size w p k c R) (K : Kept (fun _ => False) w0 w) (hg : w.grownBy w9 (Value.slice p k c).ownBlock) : Kept (fun _ => False) w0 w9 := by
  have KG : Kept (fun j => blockOf p = some j) w w9 := (Kept.refl _ _).grown hg (fun j _ z => by rw [blockOf_own] at z; exact z)
  exact K.trans KG (fun j hj z => by have := (own_lt h.row j z).1; omega)
/-- A Get's value is written anew. -/
theorem MS.val {w : World} {v : Md} {k gl c : Nat} {L : List Nat} {q : Option Addr} {kb cb : Nat} {po : Option Addr} {co : Nat} {b1 LB g j : Nat} {wr : World} (h : MS w v k (some ⟨gl, 0, none⟩) c L q kb cb po co b1 LB g j wr) (rd : ∀ V, Kept (fun _ => False) w V → ∀ m ∈ v.hist k, Reads V m.va m.vn m.vc m.val) {i : Nat} (hi : i < k) {b : Nat} {p16 : Option Addr} {n16 c16 : Nat} {xs : List Nat} (ho : wr.ownsRow b 5 1 (.slice p16 n16 c16) n16 (cellsOf xs)) (hx : ∀ c ∈ xs, c < 256) {m' : Cm} (hcs : m'.cs = (v.one i).cs.setIfInBounds 4 (.slice p16 n16 c16)) (hva : m'.va = p16 ∧ m'.vn = n16 ∧ m'.vc = c16 ∧ m'.val = xs) :
    CRd (wr.setCell ⟨gl, i * 11 + 4, none⟩ (.slice p16 n16 c16)) (some ⟨gl, 0, none⟩) k c ((v.hist k).set i m') ∧ IRd (wr.setCell ⟨gl, i * 11 + 4, none⟩ (.slice p16 n16 c16)) q kb cb (L.map fun r : Nat => (r : Int)) ∧ IRd (wr.setCell ⟨gl, i * 11 + 4, none⟩ (.slice p16 n16 c16)) po k co ((List.range k).map fun r : Nat => (r : Int)) ∧ Kept (fun _ => False) w (wr.setCell ⟨gl, i * 11 + 4, none⟩ (.slice p16 n16 c16)) := by
  have K : Kept (fun x => x = gl) wr (wr.setCell ⟨gl, i * 11 + 4, none⟩ (.slice p16 n16 c16)) := (Kept.refl (fun x => x = gl) wr).setCell (p := ⟨gl, i * 11 + 4, none⟩) (fun _ => rfl) _
  obtain ⟨cs, hc⟩ := own_type h.calls.row gl rfl
  have hg := (own_lt h.calls.row gl rfl).1
  have hb1 := h.b1
  have KW : Kept (fun _ => False) w (wr.setCell ⟨gl, i * 11 + 4, none⟩ (.slice p16 n16 c16)) := h.kept.trans K (fun y hy z => by have z : y = gl := z; omega)
  have ne : ∀ {t : TypeId} {b0 : Nat} {a : Option Addr} {n c2 : Nat} {ys : List Value}, t ≠ 38 → wr.ownsRow b0 t 1 (.slice a n c2) n ys → ¬ blockOf a = some gl := fun ht hr z => by
    obtain ⟨cs2, h2⟩ := own_type hr gl z
    rw [hc] at h2
    simp at h2
    exact ht h2.2.symm
  refine ⟨(h.calls.cell (v.at hi) 4 (by omega) _ hcs).rd (fun m hm => ?_), (h.by_.off K (fun y z e => ne (by decide) h.by_.row (by rw [z]; exact congrArg some e))).ird, (h.nums.off K (fun y z e => ne (by decide) h.nums.row (by rw [z]; exact congrArg some e))).ird, KW⟩
  rcases List.mem_or_eq_of_mem_set hm with z | z
  · exact rd _ KW m z
  · obtain ⟨e1, e2, e3, e4⟩ := hva
    rw [z, e1, e2, e3, e4]
    have ho2 := K.owns ho (fun y z e => by
      rw [blockOf_own] at z
      exact ne (by decide) ho (by rw [z]; exact congrArg some e))
    obtain ⟨a9, n9, e9, r9⟩ := owns_reads ho2 hx
    injection e9 with e91 e92 e93
    subst e91
    subst e93
    exact r9.1
theorem Md.vl_small {v : Md} (h : ∀ y ∈ v.vals, y.2.1 + 1 ≤ 140737488355328) (i : Nat) : (v.vl i).2.1 + 1 ≤ 140737488355328 := by
  unfold Md.vl
  rw [List.getD_eq_getElem?_getD]
  cases q : v.vals[i]? with
  | none => show 0 + 1 ≤ 140737488355328; omega
  | some x => exact h x (List.mem_of_getElem? q)
theorem Md.one_small {v : Md} (h : ∀ y ∈ v.vals, y.2.1 + 1 ≤ 140737488355328) (i : Nat) : (v.one i).vn + 1 ≤ 140737488355328 := by
  unfold Md.one
  split
  · exact Md.vl_small h i
  · split
    · rename_i l hl
      obtain ⟨p, _, rfl⟩ := v.last_put hl
      exact Md.vl_small h p
    · show 0 + 1 ≤ 140737488355328; omega
theorem K_byte {w0 w w9 : World} {p : Option Addr} {k c : Nat} {xs : List Value} {o : Obj} (h : w.ownsRow w0.heap.size 5 1 (.slice p k c) k xs) (K : Kept (fun _ => False) w0 w) (hg : (w.alloc o).grownBy w9 (Value.slice p k c).ownBlock) : Kept (fun _ => False) w0 w9 := by
  have KG : Kept (fun j => blockOf p = some j) w w9 := ((Kept.refl (fun j => blockOf p = some j) w).alloc _).grown hg (fun j _ z => by rw [blockOf_own] at z; exact z)
  exact K.trans KG (fun j hj z => by have := (own_lt h j z).1; omega)
end Go.Proofs.Ytodmakcklacbfaa
