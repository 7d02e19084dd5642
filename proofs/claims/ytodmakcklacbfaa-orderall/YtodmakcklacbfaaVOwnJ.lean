import Derived.Test.YtodmakcklacbfaaNOneW
import Derived.Test.YtodmakcklacbfaaVSmallJ
namespace Go.Proofs.Ytodmakcklacbfaa
open Go.RowKit 


theorem ccells_len (ms : List Cm) : (ccells ms).length = ms.length * 11 := by
  induction ms with
  | nil => rfl
  | cons m ms ih =>
    have e : ccells (m :: ms) = m.cs.toList ++ ccells ms := by simp [ccells]
    have el : m.cs.toList.length = 11 := rfl
    rw [e, List.length_append, ih, el, List.length_cons]
    omega
theorem ccells_set : ∀ (ms : List Cm) (i : Nat) (m m' : Cm) (j : Nat) (u : Value), ms[i]? = some m → j < 11 → m'.cs = m.cs.setIfInBounds j u → ccells (ms.set i m') = (ccells ms).set (i * 11 + j) u
  | [], i, _, _, _, _, h, _, _ => by simp at h
  | a :: ms, i, m, m', j, u, h, hj, hc => by
    have e : ∀ (x : Cm) (l : List Cm), ccells (x :: l) = x.cs.toList ++ ccells l := fun x l => by simp [ccells]
    have el : ∀ x : Cm, x.cs.toList.length = 11 := fun x => rfl
    cases i with
    | zero =>
      have h : a = m := by simpa using h
      subst h
      rw [List.set_cons_zero, e, e, List.set_append_left _ _ (by rw [el]; omega), hc, Nat.zero_mul, Nat.zero_add, Array.toList_setIfInBounds]
    | succ i =>
      rw [List.set_cons_succ, e, e, List.set_append_right _ _ (by rw [el]; omega), el, show (i + 1) * 11 + j - 11 = i * 11 + j by omega]
      rw [ccells_set ms i m m' j u (by simpa using h) hj hc]
theorem ccells_plain (ms : List Cm) (v : Value) (hv : v ∈ ccells ms) : ∃ m ∈ ms, v ∈ m.cs.toList := by
  unfold ccells at hv
  exact List.mem_flatMap.1 hv
/-- A list of calls as what is appended. -/
theorem crd_src {w : World} {p : Option Addr} {n c : Nat} {ms : List Cm} (h : CRd w p n c ms) : Src Try.prog 11 27 (.slice p n c) n (ccells ms) w := by
  have pl : ∀ v ∈ ccells ms, ∃ m ∈ ms, v ∈ m.cs.toList := ccells_plain ms
  have some_case : ∀ ad : Addr, (∀ j u, (ccells ms)[j]? = some u → w.cell? (ad.add j) = some u) → Src Try.prog 11 27 (.slice (some ad) n c) n (ccells ms) w := fun ad hc =>
    Src.ofSlice w Try.underlying27 ad n c (ccells ms) (by rw [ccells_len, h.len]) hc (fun v hv => by
      obtain ⟨m, _, hv⟩ := pl v hv
      simp [Cm.cs] at hv
      rcases hv with rfl | rfl | rfl | rfl | rfl | rfl | rfl | rfl | rfl | rfl | rfl <;> rfl)
  by_cases h0 : 0 < n
  · obtain ⟨b, off, e, hc⟩ := h.cells h0
    subst e
    refine some_case _ (fun j u hj => ?_)
    have hl : j < ms.length * 11 := by
      rw [← ccells_len]
      exact (List.getElem?_eq_some_iff.1 hj).1
    have hq : j / 11 < ms.length := by omega
    have e2 : j = j / 11 * 11 + j % 11 := by omega
    rw [e2, ccells_get ms (j / 11) hq (j % 11) (by omega)] at hj
    rw [Addr.add_none]
    have := hc (j / 11) hq (j % 11) u hj
    rw [Nat.add_assoc, ← e2] at this
    exact this
  · have hn : n = 0 := by omega
    subst hn
    have hm : ms = [] := List.length_eq_zero_iff.1 h.len
    subst hm
    cases p with
    | none => exact Src.ofNil w Try.underlying27 c
    | some ad => exact some_case ad (fun j u hj => by simp [ccells] at hj)
theorem crd_take {w : World} {p : Option Addr} {n c : Nat} {ms : List Cm} (h : CRd w p n c ms) {i : Nat} (hi : i ≤ n) : CRd w p i c (ms.take i) := by
  have rm := h.room
  refine ⟨by rw [List.length_take, h.len]; omega, by omega, h.small, fun h0 => ?_, fun m hm => h.rd m (List.mem_of_mem_take hm)⟩
  obtain ⟨b, off, e, hc⟩ := h.cells (by omega)
  refine ⟨b, off, e, fun j hj k v hv => ?_⟩
  rw [List.getElem_take] at hv
  exact hc j _ k v hv
theorem crd_drop {w : World} {b off n c : Nat} {ms : List Cm} (h : CRd w (some ⟨b, off, none⟩) n c ms) {i : Nat} (hi : i ≤ n) : CRd w (some ⟨b, off + i * 11, none⟩) (n - i) (c - i) (ms.drop i) := by
  have rm := h.room
  have sm := h.small
  refine ⟨by rw [List.length_drop, h.len], by omega, by omega, fun h0 => ?_, fun m hm => h.rd m (List.mem_of_mem_drop hm)⟩
  obtain ⟨b', off', e, hc⟩ := h.cells (by omega)
  injection e with e
  injection e with e1 e2
  subst e1
  subst e2
  refine ⟨b, _, rfl, fun j hj k v hv => ?_⟩
  rw [List.getElem_drop] at hv
  have hj2 : i + j < ms.length := by rw [List.length_drop] at hj; omega
  have := hc (i + j) hj2 k v hv
  rw [show off + (i + j) * 11 + k = off + i * 11 + j * 11 + k by omega] at this
  exact this
/-- A list of calls of one's own, with what their bytes lie in. -/
structure QR (b0 : Nat) (w : World) (p : Option Addr) (k c : Nat) (ms : List Cm) : Prop where
  row : CRow b0 w p k c ms
  rd : ∀ m ∈ ms, Reads w m.va m.vn m.vc m.val
  ty : ∀ m ∈ ms, ∀ a, m.va = some a → ∃ C fr, w.heap[a.block]? = some (.cells C 5 fr)
theorem QR.crd {b0 : Nat} {w : World} {p : Option Addr} {k c : Nat} {ms : List Cm} (h : QR b0 w p k c ms) : CRd w p k c ms := h.row.rd h.rd
theorem QR.k0 {b0 : Nat} {w w' : World} {p : Option Addr} {k c : Nat} {ms : List Cm} (h : QR b0 w p k c ms) (K : Kept (fun _ => False) w w') : QR b0 w' p k c ms := by
  refine ⟨h.row.k0 K, fun m hm => Reads.kept K (h.rd m hm) (fun _ _ z => z), fun m hm a ha => ?_⟩
  obtain ⟨C, fr, hC⟩ := h.ty m hm a ha
  exact ⟨C, fr, K.get hC (fun z => z)⟩
theorem not_own {b0 : Nat} {w : World} {p : Option Addr} {k c : Nat} {ms : List Cm} (h : CRow b0 w p k c ms) {a : Addr} (ha : ∃ C fr, w.heap[a.block]? = some (.cells C 5 fr)) : ¬ blockOf p = some a.block := by
  intro z
  obtain ⟨C, fr, hC⟩ := ha
  obtain ⟨cs, hc⟩ := own_type h.row a.block z
  rw [hC] at hc
  simp at hc
theorem own_empty33 (w : World) : (w.alloc (.cells #[] 38)).ownsRow w.heap.size 38 11 (.slice (some ⟨w.heap.size, 0, none⟩) 0 0) 0 [] :=
  ⟨rfl, .inr ⟨w.heap.size, 0, #[], rfl, Nat.le_refl _, heap_alloc_new _ _, Nat.le_refl _, by unfold maxLen; omega, rfl, rfl⟩⟩
theorem QR.empty (w : World) : QR w.heap.size (w.alloc (.cells #[] 38)) (some ⟨w.heap.size, 0, none⟩) 0 0 [] := ⟨⟨rfl, own_empty33 w⟩, (fun _ h => absurd h (by simp)), (fun _ h => absurd h (by simp))⟩
/-- Calls are appended to a list of one's own. -/
theorem QR.grow {b0 : Nat} {w w9 W0 : World} {p p9 : Option Addr} {k c c9 n : Nat} {ms news : List Cm} (h : QR b0 w p k c ms) (hn : news.length = n) (rn : ∀ m ∈ news, Reads w m.va m.vn m.vc m.val) (tn : ∀ m ∈ news, ∀ a, m.va = some a → ∃ C fr, w.heap[a.block]? = some (.cells C 5 fr)) (ho : w9.ownsRow b0 38 11 (.slice p9 (k + n) c9) (k + n) (ccells ms ++ ccells news)) (hg : w.grownBy w9 (Value.slice p k c).ownBlock) (K0 : Kept (fun _ => False) W0 w) (hb : W0.heap.size ≤ b0) : QR b0 w9 p9 (k + n) c9 (ms ++ news) ∧ Kept (fun _ => False) W0 w9 := by
  have KG : Kept (fun j => blockOf p = some j) w w9 := (Kept.refl (fun j => blockOf p = some j) w).grown hg (fun j _ z => by rw [blockOf_own] at z; exact z)
  have all : ∀ x ∈ ms ++ news, Reads w x.va x.vn x.vc x.val ∧ ∀ a, x.va = some a → ∃ C fr, w.heap[a.block]? = some (.cells C 5 fr) := by
    intro x hx
    rcases List.mem_append.1 hx with z | z
    · exact ⟨h.rd x z, h.ty x z⟩
    · exact ⟨rn x z, tn x z⟩
  refine ⟨⟨⟨by rw [List.length_append, h.row.len, hn], by rw [ccells_append]; exact ho⟩, fun x hx => Reads.kept KG (all x hx).1 (fun a ha => not_own h.row ((all x hx).2 a ha)), fun x hx a ha => ?_⟩, Kept.own K0 KG (fun j z => by have := (own_lt h.row.row j z).1; omega)⟩
  obtain ⟨C, fr, hC⟩ := (all x hx).2 a ha
  exact ⟨C, fr, KG.get hC (not_own h.row ⟨C, fr, hC⟩)⟩
/-- A cell of a call is written. -/
theorem QR.cell {b0 : Nat} {w : World} {g k c : Nat} {ms : List Cm} (h : QR b0 w (some ⟨g, 0, none⟩) k c ms) {i : Nat} {m m' : Cm} (hm : ms[i]? = some m) (j : Nat) (hj : j < 11) (u : Value) (hcs : m'.cs = m.cs.setIfInBounds j u) (hv : m'.va = m.va ∧ m'.vn = m.vn ∧ m'.vc = m.vc ∧ m'.val = m.val) : QR b0 (w.setCell ⟨g, i * 11 + j, none⟩ u) (some ⟨g, 0, none⟩) k c (ms.set i m') := by
  have KG : Kept (fun x => x = g) w (w.setCell ⟨g, i * 11 + j, none⟩ u) := (Kept.refl (fun x => x = g) w).setCell (p := ⟨g, i * 11 + j, none⟩) (fun _ => rfl) u
  have sub : ∀ x ∈ ms.set i m', ∃ y ∈ ms, x.va = y.va ∧ x.vn = y.vn ∧ x.vc = y.vc ∧ x.val = y.val := by
    intro x hx
    rcases List.mem_or_eq_of_mem_set hx with z | z
    · exact ⟨x, z, rfl, rfl, rfl, rfl⟩
    · exact ⟨m, List.mem_of_getElem? hm, by rw [z]; exact hv⟩
  refine ⟨⟨by rw [List.length_set]; exact h.row.len, ?_⟩, fun x hx => ?_, fun x hx a ha => ?_⟩
  · rw [ccells_set ms i m m' j u hm hj hcs]
    refine ⟨by rw [List.length_set]; exact h.row.row.1, ?_⟩
    rcases h.row.row.2 with ⟨e0, _⟩ | ⟨g4, c4, cur, e4, hb, hg, hn, hl, hs, ht⟩
    · simp at e0
    · simp at e4
      obtain ⟨rfl, rfl⟩ := e4
      refine .inr ⟨g, c, cur.setIfInBounds (i * 11 + j) u, rfl, hb, set_heap hg _ u, hn, hl, by simpa using hs, ?_⟩
      rw [← ht, Array.toList_setIfInBounds, List.take_set]
  · obtain ⟨y, hy, e1, e2, e3, e4⟩ := sub x hx
    rw [e1, e2, e3, e4]
    exact Reads.kept KG (h.rd y hy) (fun a ha z => not_own h.row (h.ty y hy a ha) (by show some g = some a.block; rw [z]))
  · obtain ⟨y, hy, e1, _⟩ := sub x hx
    rw [e1] at ha
    obtain ⟨C, fr, hC⟩ := h.ty y hy a ha
    exact ⟨C, fr, KG.get hC (fun z => not_own h.row ⟨C, fr, hC⟩ (by show some g = some a.block; rw [z]))⟩
theorem QR.ptr {b0 : Nat} {w : World} {p : Option Addr} {k c : Nat} {ms : List Cm} (h : QR b0 w p k c ms) (h0 : 0 < k) : ∃ g, p = some ⟨g, 0, none⟩ ∧ b0 ≤ g ∧ ∃ cur, w.heap[g]? = some (.cells cur 38 (0, 0)) := by
  rcases h.row.row.2 with ⟨_, e1⟩ | ⟨g, cap, cur, e0, hb, hg, _⟩
  · omega
  · simp at e0
    exact ⟨g, e0.1, hb, cur, hg⟩
theorem QR.at {b0 : Nat} {w : World} {g k c : Nat} {ms : List Cm} (h : QR b0 w (some ⟨g, 0, none⟩) k c ms) {i : Nat} {m : Cm} (hm : ms[i]? = some m) (j : Nat) {v : Value} (hv : m.cs[j]? = some v) : w.cell? ⟨g, i * 11 + j, none⟩ = some v := by
  obtain ⟨hl, he⟩ := List.getElem?_eq_some_iff.1 hm
  have hk : 0 < k := by rw [← h.row.len]; omega
  obtain ⟨b, off, e, hc⟩ := h.crd.cells hk
  injection e with e
  injection e with e1 e2
  subst e1
  subst e2
  have := hc i hl j v (by rw [he]; exact hv)
  rw [Nat.zero_add] at this
  exact this
theorem src_calls {w : World} {b : Nat} (l : List Cm) (n : Nat) (hn : l.length = n) (h : w.heap[b]? = some (.cells (ccells l).toArray 38 (0, 0))) : Src Try.prog 11 27 (.slice (some ⟨b, 0, none⟩) n n) n (ccells l) w :=
  Src.ofSlice w Try.underlying27 ⟨b, 0, none⟩ n n (ccells l) (by rw [ccells_len, hn]) (fun j u hj => by
    rw [Addr.add_none, Nat.zero_add]
    refine cell_blk h j ?_
    simpa using hj) (fun v hv => by
      obtain ⟨m, _, hv⟩ := ccells_plain l v hv
      simp [Cm.cs] at hv
      rcases hv with rfl | rfl | rfl | rfl | rfl | rfl | rfl | rfl | rfl | rfl | rfl <;> rfl)
theorem bl_few {k n : Nat} (hk : k ≤ 10) (hn : n ≤ 10) : k + n ≤ maxLen ∧ ((k + n) + (k + n) / 4 + 192) * 112 ≤ 281474976710656 := by
  unfold maxLen
  omega
end Go.Proofs.Ytodmakcklacbfaa

namespace Go.Proofs.Ytodmakcklacbfaa
open Go.RowKit 

/-- A call without where its bytes lie. -/
def er (m : Cm) : Cm := { m with va := none, vc := 0 }
theorem own_none5 (b0 : Nat) (w : World) : w.ownsRow b0 5 1 (.slice none 0 0) 0 (cellsOf []) := ⟨rfl, .inl ⟨rfl, rfl⟩⟩
def RetW (Q : Option Addr → Nat → World → Prop) (n : Nat) (o : Ending) (w : World) : Prop := ∃ p c, o = .returned (.slice p n c) ∧ Q p c w
theorem RetW.mk {Q : Option Addr → Nat → World → Prop} {n : Nat} {o : Ending} {w : World} (p : Option Addr) (c : Nat) (h : o = .returned (.slice p n c)) (hq : Q p c w) : RetW Q n o w := ⟨p, c, h, hq⟩
set_option maxRecDepth 100000 in
theorem tOwn {w : World} {a : Option Addr} {n c : Nat} {l : List Nat} (r : Reads w a n c l) (hn : n + 1 ≤ 140737488355328) : Calls Try.prog 57 #[.slice a n c] w (RetW (fun p c' w' => Reads w' p n c' l ∧ Kept (fun _ => False) w w' ∧ ∀ ad, p = some ad → ∃ C fr, w'.heap[ad.block]? = some (.cells C 5 fr)) n) := by
  have H : Hid (Reads w a n c l) := r
  clear r
  go_enter Try.func57, Try.ntmps57
  go_wp2_with
    (first
      | (at_builtin; refine wpList_append_bytes _ rfl _ (.tmp 3) rfl w.heap.size (.slice none 0 0) 0 [] rfl (own_none5 _ _) _ n l rfl H.out.src (by omega) (Nat.le_refl _) ?_; intro p9 c9 w9 ho hg hn9)
      | fail)
  have O : w9.ownsRow w.heap.size 5 1 (.slice p9 n c9) n (cellsOf l) := by
    have := ho.out
    rw [Nat.zero_add, List.nil_append] at this
    exact this
  have G : Hid (Reads w9 p9 n c9 l ∧ Kept (fun _ => False) w w9 ∧ ∀ ad, p9 = some ad → ∃ C fr, w9.heap[ad.block]? = some (.cells C 5 fr)) := by
    obtain ⟨a', cap', e', rd, _⟩ := owns_reads O H.out.bytes
    simp at e'
    rw [← e'.1, ← e'.2] at rd
    refine ⟨rd, (Kept.refl (fun _ => False) w).grown hg.out (fun k _ z => by cases z), fun ad had => ?_⟩
    obtain ⟨cs, hc⟩ := own_type O ad.block (by rw [had]; rfl)
    exact ⟨cs, _, hc⟩
  clear O ho hg hn9
  go_ret
  exact RetW.mk p9 c9 (by simp) G.out
/-- The copies on their way. -/
structure OC (w0 wr : World) (ms : List Cm) (i : Nat) (p : Option Addr) (c : Nat) : Prop where
  ok : ∃ L, QR w0.heap.size wr p i c L ∧ L.map er = (ms.take i).map er
  kept : Kept (fun _ => False) w0 wr
theorem OC.k0 {w0 wr w' : World} {ms : List Cm} {i : Nat} {p : Option Addr} {c : Nat} (h : OC w0 wr ms i p c) (K : Kept (fun _ => False) wr w') : OC w0 w' ms i p c := by
  obtain ⟨L, h1, h2⟩ := h.ok
  exact ⟨⟨L, h1.k0 K, h2⟩, h.kept.trans K (fun _ _ z => z)⟩
set_option maxRecDepth 100000 in
set_option maxHeartbeats 4000000 in
theorem tOwnCalls {w : World} {p0 : Option Addr} {n c0 : Nat} {ms : List Cm} (cr : CRd w p0 n c0 ms) (hb : n ≤ 1300000000000) (hv : ∀ m ∈ ms, m.vn + 1 ≤ 140737488355328) : Calls Try.prog 22 #[.slice p0 n c0] w (RetW (fun p c' w' => OC w w' ms n p c') n) := by
  have rm := cr.room
  have sm := cr.small
  unfold maxLen at sm
  have H : Hid (CRd w p0 n c0 ms ∧ ∀ m ∈ ms, m.vn + 1 ≤ 140737488355328) := ⟨cr, hv⟩
  have S0 : Hid (OC w w ms 0 none 0) := ⟨⟨[], ⟨⟨rfl, ⟨rfl, .inl ⟨rfl, rfl⟩⟩⟩, (fun _ h => absurd h (by simp)), (fun _ h => absurd h (by simp))⟩, rfl⟩, Kept.refl _ _⟩
  clear cr hv
  go_enter Try.func22, Try.ntmps22
  go_wp2_with fail
  go_loopw [3, 5, 8] (fun u3 _ u8 wy => ∃ (i c : Nat) (p : Option Addr), u3 = .slice p i c ∧ u8 = .int .i64 (i : Int) ∧ i ≤ n ∧ Hid (OC w wy ms i p c)) (fun _ _ u8 _ => n - (intOf u8).toNat)
  case atStart => exact ⟨0, 0, none, rfl, rfl, Nat.zero_le _, S0⟩
  case round =>
    obtain ⟨i, c, p, rfl, rfl, hi, S⟩ := hrel
    clear S0
    obtain ⟨wo, hwo⟩ : ∃ wo, wo = wr := ⟨_, rfl⟩
    rw [← hwo] at S ⊢
    clear hwo
    by_cases hlt : i < n
    · have i1 : (i : Int) < (n : Int) := by omega
      obtain ⟨b9, off9, m, rfl, hm, y0, y1, y2, y3, y4, y5, y6, y7, y8, y9, y10, rd⟩ := (H.out.1.k0 S.out.kept).at hlt
      obtain ⟨W, hW⟩ : ∃ W, W = wo.alloc (.cells m.cs 38) := ⟨_, rfl⟩
      obtain ⟨E, hE⟩ : ∃ E, E = wo.heap.size := ⟨_, rfl⟩
      have KW : Kept (fun _ => False) wo W := by rw [hW]; exact (Kept.refl _ _).alloc _
      have T : Hid (W.heap[E]? = some (.cells m.cs 38 (0, 0)) ∧ Kept (fun _ => False) wo W ∧ Reads W m.va m.vn m.vc m.val ∧ wo.heap.size ≤ E) := ⟨by rw [hW, hE]; exact alloc_new _ _, KW, Reads.kept KW rd (fun _ _ z => z), by omega⟩
      have EWH : Hid (W = wo.alloc (.cells #[.int .i64 m.client, .int .i64 m.op, .bool m.put, .string m.key, .slice m.va m.vn m.vc, .int .i64 m.st, .int .i64 m.frm, .int .i64 m.to, .bool m.opn, .int .i64 m.tx, .int .i64 m.ty] 38) ∧ E = wo.heap.size) := ⟨hW, hE⟩
      have HM : Hid (ms[i]? = some m ∧ m.vn + 1 ≤ 140737488355328) := ⟨hm, H.out.2 m (List.mem_of_getElem? hm)⟩
      clear hW hE hm KW rd
      go_upto_region 5 with fail
      rw [← EWH.out.1, ← EWH.out.2]
      clear EWH y0 y1 y2 y3 y4 y5 y6 y7 y8 y9 y10
      have d4 := cell_blk T.out.1 4 (v := .slice m.va m.vn m.vc) rfl
      go_wp2_with fail
      refine (tOwn T.out.2.2.1 HM.out.2).mono ?_
      rintro o w2 ⟨p2, c2, rfl, rd2, K2, ty2⟩
      have B2 : w2.heap[E]? = some (.cells m.cs 38 (0, 0)) := K2.get T.out.1 (fun z => z)
      have e4 := cell_blk B2 4 (v := .slice m.va m.vn m.vc) rfl
      have e4f := soft_blk B2 4
      obtain ⟨X, hX⟩ : ∃ X, X = w2.setCell ⟨E, 4, none⟩ (.slice p2 m.vn c2) := ⟨_, rfl⟩
      have nE : ∀ a : Addr, p2 = some a → a.block ≠ E := fun a ha z => by
        obtain ⟨C, fr, hC⟩ := ty2 a ha
        rw [z, B2] at hC
        simp at hC
      have F : Hid (X.heap[E]? = some (.cells (Cm.cs ⟨m.client, m.op, m.put, m.key, p2, m.vn, c2, m.st, m.frm, m.to, m.opn, m.tx, m.ty, m.val⟩) 38 (0, 0)) ∧ Reads X p2 m.vn c2 m.val ∧ (∀ a, p2 = some a → ∃ C fr, X.heap[a.block]? = some (.cells C 5 fr)) ∧ OC w X ms i p c) := by
        rw [hX]
        refine ⟨set_heap B2 4 _, reads_set rd2 nE 4 _, fun a ha => ?_, S.out.k0 (kept_setv (T.out.2.1.trans K2 (fun _ _ z => z)) T.out.2.2.2 _ _)⟩
        obtain ⟨C, fr, hC⟩ := ty2 a ha
        exact ⟨C, fr, (set_other 4 _ (nE a ha)).trans hC⟩
      have EX : Hid (X = w2.setCell ⟨E, 4, none⟩ (.slice p2 m.vn c2)) := hX
      clear hX nE B2 rd2 K2 ty2 d4
      go_upto_region 6 with fail
      rw [← EX.out]
      clear EX e4 e4f
      have d0 := cell_blk F.out.1 0 (v := .int .i64 m.client) rfl
      have d1 := cell_blk F.out.1 1 (v := .int .i64 m.op) rfl
      have d2 := cell_blk F.out.1 2 (v := .bool m.put) rfl
      have d3 := cell_blk F.out.1 3 (v := .string m.key) rfl
      have d4 := cell_blk F.out.1 4 (v := .slice p2 m.vn c2) rfl
      have d5 := cell_blk F.out.1 5 (v := .int .i64 m.st) rfl
      have d6 := cell_blk F.out.1 6 (v := .int .i64 m.frm) rfl
      have d7 := cell_blk F.out.1 7 (v := .int .i64 m.to) rfl
      have d8 := cell_blk F.out.1 8 (v := .bool m.opn) rfl
      have d9 := cell_blk F.out.1 9 (v := .int .i64 m.tx) rfl
      have d10 := cell_blk F.out.1 10 (v := .int .i64 m.ty) rfl
      obtain ⟨L, q, eL⟩ := F.out.2.2.2.ok
      have QL : Hid (QR w.heap.size X p i c L ∧ L.map er = (ms.take i).map er) := ⟨q, eL⟩
      have vb : Hid (i + 1 ≤ maxLen ∧ ((i + 1) + (i + 1) / 4 + 192) * 112 ≤ 281474976710656) := by
        unfold maxLen
        exact ⟨by omega, by omega⟩
      clear q eL
      go_upto_region 7 with
        (first | (at_builtin; refine wpList_append_all _ rfl (.tmp 16) (.tmp 18) 27 38 27 _ 11 112 rfl Try.underlying27 Try.info38c rfl w.heap.size (.slice p i c) i (ccells L) rfl ((QL.out.1.k0 ((Kept.refl (fun _ => False) X).alloc _)).row.row) _ 1 (ccells [⟨m.client, m.op, m.put, m.key, p2, m.vn, c2, m.st, m.frm, m.to, m.opn, m.tx, m.ty, m.val⟩]) rfl (src_calls [⟨m.client, m.op, m.put, m.key, p2, m.vn, c2, m.st, m.frm, m.to, m.opn, m.tx, m.ty, m.val⟩] 1 rfl (heap_alloc_new X _)) vb.out.1 vb.out.2 (Nat.le_trans F.out.2.2.2.kept.size ((Kept.refl (fun _ => False) X).alloc _).size) ?_; intro pa ca wa ho hg hn9) | fail)
      have G : Hid (OC w wa ms (i + 1) pa ca) := by
        have A : Kept (fun _ => False) X _ := (Kept.refl (fun _ => False) X).alloc (.cells #[.int .i64 m.client, .int .i64 m.op, .bool m.put, .string m.key, .slice p2 m.vn c2, .int .i64 m.st, .int .i64 m.frm, .int .i64 m.to, .bool m.opn, .int .i64 m.tx, .int .i64 m.ty] 38)
        have Q := (QL.out.1.k0 A).grow (news := [⟨m.client, m.op, m.put, m.key, p2, m.vn, c2, m.st, m.frm, m.to, m.opn, m.tx, m.ty, m.val⟩]) (n := 1) rfl (fun y hy => by rw [List.mem_singleton.1 hy]; exact Reads.kept A F.out.2.1 (fun _ _ z => z)) (fun y hy ad had => by
          rw [List.mem_singleton.1 hy] at had
          obtain ⟨C, fr, hC⟩ := F.out.2.2.1 ad had
          exact ⟨C, fr, A.get hC (fun z => z)⟩) ho.out hg.out (F.out.2.2.2.kept.alloc _) (Nat.le_refl _)
        refine ⟨⟨_, Q.1, ?_⟩, Q.2⟩
        rw [List.map_append, QL.out.2, List.take_add_one, HM.out.1, List.map_append]
        rfl
      clear ho hg hn9
      go_wp2_with fail
      go_roundw
      case rel => exact ⟨i + 1, ca, pa, rfl, by go_num, by omega, G⟩
      case measure => simp [intOf] <;> omega
    · have i1 : ¬ (i : Int) < (n : Int) := by omega
      have ei : n = i := by omega
      subst ei
      go_wp2_with fail
      go_ret
      exact RetW.mk p c rfl S.out
end Go.Proofs.Ytodmakcklacbfaa
