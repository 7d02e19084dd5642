import Derived.Test.YtbangbobfeflcaaDoorHMe
import Derived.Test.YtbangbobfeflcaaDoorHMod
namespace Go.Proofs.YtbangbobfeflcaaDoor
open Go.RowKit 

theorem kcs_len : ∀ L : List Ca, (kcs L).length = L.length * 11
  | [] => rfl
  | a :: L => by
    have e : kcs (a :: L) = a.cs.toList ++ kcs L := by unfold kcs; simp
    have el : a.cs.toList.length = 11 := rfl
    rw [e, List.length_append, el, kcs_len L, List.length_cons]
    omega
theorem kcs_set : ∀ (L : List Ca) (t : Nat) (x x' : Ca) (j : Nat) (v : Value), L[t]? = some x → j < 11 → x'.cs.toList = x.cs.toList.set j v → (kcs L).set (t * 11 + j) v = kcs (L.set t x')
  | [], t, x, x', j, v, h, _, _ => by cases h
  | a :: L, 0, x, x', j, v, h, hj, e => by
    have ea : a = x := by simpa using h
    subst ea
    have e1 : kcs (a :: L) = a.cs.toList ++ kcs L := by unfold kcs; simp
    have e2 : kcs (x' :: L) = x'.cs.toList ++ kcs L := by unfold kcs; simp
    have el : a.cs.toList.length = 11 := rfl
    rw [e1, List.set_cons_zero, e2, Nat.zero_mul, Nat.zero_add, List.set_append_left _ _ (by rw [el]; exact hj), e]
  | a :: L, t + 1, x, x', j, v, h, hj, e => by
    have e1 : kcs (a :: L) = a.cs.toList ++ kcs L := by unfold kcs; simp
    have e2 : kcs (a :: L.set t x') = a.cs.toList ++ kcs (L.set t x') := by unfold kcs; simp
    have el : a.cs.toList.length = 11 := rfl
    rw [e1, List.set_cons_succ, e2, List.set_append_right _ _ (by rw [el]; omega), el, show (t + 1) * 11 + j - 11 = t * 11 + j by omega, kcs_set L t x x' j v (by simpa using h) hj e]
/-- A store into an owned row. -/
theorem owns_setN {w : World} {base : Nat} {e : TypeId} {size g n c : Nat} {xs : List Value} (h : w.ownsRow base e size (.slice (some ⟨g, 0, none⟩) n c) n xs) (i : Nat) (u : Value) :
    (w.setCell ⟨g, i, none⟩ u).ownsRow base e size (.slice (some ⟨g, 0, none⟩) n c) n (xs.set i u) := by
  refine ⟨by rw [List.length_set]; exact h.1, ?_⟩
  rcases h.2 with ⟨e0, _⟩ | ⟨g4, c4, cur, e4, hb, hg, hn, hm, hs, ht⟩
  · simp at e0
  · simp at e4
    obtain ⟨rfl, rfl⟩ := e4
    refine .inr ⟨g, c, cur.setIfInBounds i u, rfl, hb, set_heap hg i u, hn, hm, by simpa using hs, ?_⟩
    rw [← ht, Array.toList_setIfInBounds, List.take_set]
/-- A list of calls of one's own, wherever their bytes lie. -/
structure CRo (b0 : Nat) (w : World) (p : Option Addr) (k c : Nat) (L : List Ca) : Prop where
  len : L.length = k
  row : w.ownsRow b0 48 11 (.slice p k c) k (kcs L)
theorem CRo.nil (b0 : Nat) (w : World) : CRo b0 w none 0 0 [] := ⟨rfl, rfl, .inl ⟨rfl, rfl⟩⟩
theorem CRo.by {b0 : Nat} {S : Nat → Prop} {w w' : World} {p : Option Addr} {k c : Nat} {L : List Ca} (h : CRo b0 w p k c L) (K : Kept S w w') (hS : ∀ j, blockOf p = some j → ¬ S j) : CRo b0 w' p k c L := ⟨h.len, K.owns h.row (fun j z => by rw [blockOf_own] at z; exact hS j z)⟩
theorem CRo.k0 {b0 : Nat} {w w' : World} {p : Option Addr} {k c : Nat} {L : List Ca} (h : CRo b0 w p k c L) (K : Kept (fun _ => False) w w') : CRo b0 w' p k c L := h.by K (fun _ _ z => z)
theorem CRo.set {b0 : Nat} {w : World} {g k c : Nat} {L : List Ca} (h : CRo b0 w (some ⟨g, 0, none⟩) k c L) {t : Nat} {x : Ca} (ht : L[t]? = some x) (x' : Ca) (j : Nat) (v : Value) (hj : j < 11) (e : x'.cs.toList = x.cs.toList.set j v) : CRo b0 (w.setCell ⟨g, t * 11 + j, none⟩ v) (some ⟨g, 0, none⟩) k c (L.set t x') :=
  ⟨by rw [List.length_set]; exact h.len, by rw [← kcs_set L t x x' j v ht hj e]; exact owns_setN h.row _ _⟩
theorem CRo.cell {b0 : Nat} {w : World} {g k c : Nat} {L : List Ca} (h : CRo b0 w (some ⟨g, 0, none⟩) k c L) {t : Nat} {x : Ca} (ht : L[t]? = some x) (j : Nat) {v : Value} (hv : x.cs[j]? = some v) : w.cell? ⟨g, t * 11 + j, none⟩ = some v ∧ w.frozen? ⟨g, t * 11 + j, none⟩ = false := by
  have hj : j < 11 := (Array.getElem?_eq_some_iff.1 hv).1
  obtain ⟨hl, hx⟩ := List.getElem?_eq_some_iff.1 ht
  have hc := h.row.cells (g := g) rfl (t * 11 + j) v (by rw [kcs_get L t hl j hj, hx]; exact hv)
  rw [Addr.add_none, Nat.zero_add] at hc
  obtain ⟨cs, hg⟩ := own_type h.row g rfl
  exact ⟨hc, soft_blk hg _⟩
theorem CRo.at {b0 : Nat} {w : World} {p : Option Addr} {k c : Nat} {L : List Ca} (h : CRo b0 w p k c L) (h0 : 0 < k) : ∃ g, p = some ⟨g, 0, none⟩ ∧ b0 ≤ g ∧ ∃ cs, w.heap[g]? = some (.cells cs 48 (0, 0)) := by
  rcases h.row.2 with ⟨_, z⟩ | ⟨g, cap, cur, z, hb, hg, _⟩
  · omega
  · have z : Value.slice p k c = .slice (some ⟨g, 0, none⟩) k cap := z
    injection z with z1 _ _
    exact ⟨g, z1, hb, cur, hg⟩
theorem CRo.crd {b0 : Nat} {w : World} {p : Option Addr} {k c : Nat} {L : List Ca} (h : CRo b0 w p k c L) (hr : ∀ x ∈ L, Reads w x.va x.vn x.vc x.val) : CaRd w p k c L := by
  obtain ⟨r1, r2⟩ := own_room h.row
  refine ⟨h.len, r1, r2, fun h0 => ?_, hr⟩
  obtain ⟨g, rfl, _⟩ := h.at h0
  refine ⟨g, 0, rfl, fun i hi j v hv => ?_⟩
  have := (h.cell (t := i) (List.getElem?_eq_getElem hi) j hv).1
  rw [Nat.zero_add]
  exact this
/-- What a client has under way, in memory. -/
def Bz.cs (b : Bz) : Array Value := #[.bool b.on, .int .i64 b.op, .int .i64 (b.at_ : Int), .bool b.put, .string b.key]
def nowC (now : Nat → Bz) : Array Value := #[.bool (now 0).on, .int .i64 (now 0).op, .int .i64 ((now 0).at_ : Int), .bool (now 0).put, .string (now 0).key, .bool (now 1).on, .int .i64 (now 1).op, .int .i64 ((now 1).at_ : Int), .bool (now 1).put, .string (now 1).key, .bool (now 2).on, .int .i64 (now 2).op, .int .i64 ((now 2).at_ : Int), .bool (now 2).put, .string (now 2).key, .bool (now 3).on, .int .i64 (now 3).op, .int .i64 ((now 3).at_ : Int), .bool (now 3).put, .string (now 3).key, .bool (now 4).on, .int .i64 (now 4).op, .int .i64 ((now 4).at_ : Int), .bool (now 4).put, .string (now 4).key]
theorem nowC_get (now : Nat → Bz) {c : Nat} (hc : c < 5) : (nowC now)[c * 5]? = some (.bool (now c).on) ∧ (nowC now)[c * 5 + 1]? = some (.int .i64 (now c).op) ∧ (nowC now)[c * 5 + 2]? = some (.int .i64 ((now c).at_ : Int)) ∧ (nowC now)[c * 5 + 3]? = some (.bool (now c).put) ∧ (nowC now)[c * 5 + 4]? = some (.string (now c).key) := by
  obtain rfl | rfl | rfl | rfl | rfl : c = 0 ∨ c = 1 ∨ c = 2 ∨ c = 3 ∨ c = 4 := by omega
  all_goals exact ⟨rfl, rfl, rfl, rfl, rfl⟩
theorem nowC_set (now : Nat → Bz) {c : Nat} (hc : c < 5) (b : Bz) : (((((nowC now).setIfInBounds (c * 5) (.bool b.on)).setIfInBounds (c * 5 + 1) (.int .i64 b.op)).setIfInBounds (c * 5 + 2) (.int .i64 (b.at_ : Int))).setIfInBounds (c * 5 + 3) (.bool b.put)).setIfInBounds (c * 5 + 4) (.string b.key) = nowC (setB now c b) := by
  obtain rfl | rfl | rfl | rfl | rfl : c = 0 ∨ c = 1 ∨ c = 2 ∨ c = 3 ∨ c = 4 := by omega
  all_goals rfl
theorem nowC_off (now : Nat → Bz) {c : Nat} (hc : c < 5) : (nowC now).setIfInBounds (c * 5) (.bool false) = nowC (setB now c { now c with on := false }) := by
  obtain rfl | rfl | rfl | rfl | rfl : c = 0 ∨ c = 1 ∨ c = 2 ∨ c = 3 ∨ c = 4 := by omega
  all_goals rfl
def keyN : Nat → ByteArray
  | 0 => ⟨#[107]⟩
  | 1 => ⟨#[108]⟩
  | _ => ⟨#[0, 34]⟩
theorem keyN_size (r : Nat) : 1 ≤ (keyN r).size ∧ (keyN r).size ≤ 64 := by
  rcases r with _ | _ | r
  · exact ⟨by decide, by decide⟩
  · exact ⟨by decide, by decide⟩
  · show 1 ≤ (⟨#[0, 34]⟩ : ByteArray).size ∧ (⟨#[0, 34]⟩ : ByteArray).size ≤ 64
    exact ⟨by decide, by decide⟩
/-- A move. -/
structure Mv where
  client : Int
  put : Bool
  key : Int
  va : Option Addr
  vn : Nat
  vc : Nat
  fin : Int
  val : List Nat
def Mv.cs (m : Mv) : Array Value := #[.int .i64 m.client, .bool m.put, .int .i64 m.key, .slice m.va m.vn m.vc, .int .i64 m.fin]
structure MRd (w : World) (p : Option Addr) (n c : Nat) (ms : List Mv) : Prop where
  len : ms.length = n
  room : n ≤ c
  small : c ≤ maxLen
  cells : 0 < n → ∃ b off, p = some ⟨b, off, none⟩ ∧ ∀ i (h : i < ms.length) k v, ms[i].cs[k]? = some v → w.cell? ⟨b, off + i * 5 + k, none⟩ = some v
  rd : ∀ m ∈ ms, Reads w m.va m.vn m.vc m.val
theorem MRd.at {w : World} {p : Option Addr} {n c : Nat} {ms : List Mv} (h : MRd w p n c ms) {i : Nat} (hi : i < n) : ∃ b off m, p = some ⟨b, off, none⟩ ∧ ms[i]? = some m ∧ w.cell? ⟨b, off + i * 5, none⟩ = some (.int .i64 m.client) ∧ w.cell? ⟨b, off + i * 5 + 1, none⟩ = some (.bool m.put) ∧ w.cell? ⟨b, off + i * 5 + 2, none⟩ = some (.int .i64 m.key) ∧ w.cell? ⟨b, off + i * 5 + 3, none⟩ = some (.slice m.va m.vn m.vc) ∧ w.cell? ⟨b, off + i * 5 + 4, none⟩ = some (.int .i64 m.fin) ∧ Reads w m.va m.vn m.vc m.val := by
  obtain ⟨b, off, e, hc⟩ := h.cells (by omega)
  have hi2 : i < ms.length := by rw [h.len]; exact hi
  exact ⟨b, off, ms[i], e, List.getElem?_eq_getElem hi2, hc i hi2 0 _ rfl, hc i hi2 1 _ rfl, hc i hi2 2 _ rfl, hc i hi2 3 _ rfl, hc i hi2 4 _ rfl, h.rd _ (List.getElem_mem hi2)⟩
theorem MRd.k0 {w w' : World} {p : Option Addr} {n c : Nat} {ms : List Mv} (h : MRd w p n c ms) (K : Kept (fun _ => False) w w') : MRd w' p n c ms := by
  refine ⟨h.len, h.room, h.small, fun h0 => ?_, fun m hm => Reads.kept K (h.rd m hm) (fun _ _ z => z)⟩
  obtain ⟨b, off, e, hc⟩ := h.cells h0
  exact ⟨b, off, e, fun i hi k v hv => K.cell (hc i hi k v hv) (fun z => z)⟩
theorem slice_rd {w : World} {a : Option Addr} {len cap : Nat} {l : List Nat} (h : Reads w a len cap l) (mn : Nat) (hm : mn ≤ len) (W : World) : (Instr.slice 41 (.slice a len cap) none (some (.int .i64 (mn : Int))) none).run Tryd.prog W = .ok (.slice a mn cap) W := by
  have h1 := h.room
  have h2 := h.small
  unfold maxLen at h2
  have h3 : mn ≤ cap := by omega
  by_cases h0 : 0 < len
  · obtain ⟨b, off, rfl, _⟩ := h.cells h0
    simp [Instr.slice, Instr.sliceBounds, Instr.sliceBound, asIntOf, run_underlying Tryd.underlying41, h3]
    intro _
    rw [Addr.add_none, Nat.add_zero]
  · have : mn = 0 := by omega
    subst this
    cases a with
    | none => simp [Instr.slice, Instr.sliceBounds, Instr.sliceBound, asIntOf, run_underlying Tryd.underlying41]
    | some ad =>
      simp [Instr.slice, Instr.sliceBounds, Instr.sliceBound, asIntOf, run_underlying Tryd.underlying41]
      intro _
      obtain ⟨b, off, q⟩ := ad
      unfold Addr.add
      split <;> simp_all
theorem fault_key {e : Ev} (h : faultE e = 0) : 1 ≤ e.key.size ∧ e.key.size ≤ 64 := by
  unfold faultE at h
  split at h
  · cases h
  · split at h
    · cases h
    · split at h
      · cases h
      · omega
/-- How right stands. -/
structure RS (w wr : World) (nb kb i : Nat) (ep : Option Addr) (ec : Nat) (cp : Option Addr) (k cc : Nat) (es : List Ev) (cs : List Ca) (now : Nat → Bz) : Prop where
  ri : RI es (cs.map Ca.cc) now i
  er : EaR w.heap.size wr ep i ec es
  cr : CRo w.heap.size wr cp k cc cs
  ev : ∀ e ∈ es, Reads w e.va e.vn e.vc e.val ∧ e.vn ≤ 1000
  cv : ∀ x ∈ cs, Reads w x.va x.vn x.vc x.val
  nw : wr.heap[nb]? = some (.cells (nowC now) 65 (0, 0))
  ks : wr.heap[kb]? = some (.cells #[.string ⟨#[107]⟩, .string ⟨#[108]⟩, .string ⟨#[0, 34]⟩] 66 (0, 0))
  lo : w.heap.size ≤ nb ∧ w.heap.size ≤ kb
  kept : Kept (fun _ => False) w wr
  ki : k ≤ i
end Go.Proofs.YtbangbobfeflcaaDoor
