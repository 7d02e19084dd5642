import Derived.Test.YtginpoofeliimaaWSame
import Derived.Test.YtginpoofeliimaaQMem
namespace Go.Proofs.Ytginpoofeliimaa
open Go.RowKit 

/-- Alike but for where its bytes lie. -/
def Alk (a b : Cm) : Prop := b = ⟨a.client, a.op, a.put, a.key, b.va, b.vn, b.vc, a.st, a.frm, a.to, a.opn, a.tx, a.ty, a.val⟩
theorem Alk.cl {a b : Cm} (h : Alk a b) : b.cl = a.cl := by rw [h]; rfl
/-- A byte of spare room that is marked. -/
def Sp (w : World) (m : Cm) : Prop := ∃ g C, m.va = some ⟨g, 0, none⟩ ∧ w.heap[g]? = some (.cells C 5 (0, 0)) ∧ m.vn + 1 ≤ m.vc ∧ C[m.vn]? = some (.int .u8 7)
theorem Sp.k0 {w w' : World} {m : Cm} (h : Sp w m) (K : Kept (fun _ => False) w w') : Sp w' m := by
  obtain ⟨g, C, h1, h2, h3⟩ := h
  exact ⟨g, C, h1, K.get h2 (fun z => z), h3⟩
theorem own_empty5 (w : World) : (w.alloc (.cells #[] 5)).ownsRow w.heap.size 5 1 (.slice (some ⟨w.heap.size, 0, none⟩) 0 0) 0 (cellsOf []) :=
  ⟨rfl, .inr ⟨w.heap.size, 0, #[], rfl, Nat.le_refl _, heap_alloc_new _ _, Nat.le_refl _, by unfold maxLen; omega, rfl, rfl⟩⟩
theorem own_spare {w : World} {base k c : Nat} {p : Option Addr} {l : List Nat} (h : w.ownsRow base 5 1 (.slice p (k + 1) c) (k + 1) (cellsOf (l ++ [7]))) (hl : l.length = k) (hb : ∀ c ∈ l, c < 256) : ∃ g C, p = some ⟨g, 0, none⟩ ∧ base ≤ g ∧ w.heap[g]? = some (.cells C 5 (0, 0)) ∧ k + 1 ≤ c ∧ C[k]? = some (.int .u8 7) ∧ Reads w p k c l := by
  rcases h.2 with ⟨_, e1⟩ | ⟨g, cap, cur, e0, hb0, hg, h1, h2, h3, h4⟩
  · omega
  · simp at e0
    obtain ⟨rfl, rfl⟩ := e0
    have at_ : ∀ j, j < k + 1 → cur[j]? = (cellsOf (l ++ [7]))[j]? := fun j hj => by
      rw [← h4, List.getElem?_take_of_lt (by omega), Array.getElem?_toList]
    refine ⟨g, cur, rfl, hb0, hg, h1, ?_, ⟨hl, by omega, h2, hb, fun _ => ⟨g, 0, rfl, fun j hj => ?_⟩⟩⟩
    · rw [at_ k (by omega), cellsOf_get _ _ (by simp; omega)]
      rw [List.getD_eq_getElem?_getD, List.getElem?_append_right (by omega), hl, Nat.sub_self]
      rfl
    · rw [cell_of_row w g (0 + j) cur 5 (0, 0) hg, Nat.zero_add, at_ j (by omega), cellsOf_get _ _ (by simp; omega)]
      rw [List.getD_eq_getElem?_getD, List.getD_eq_getElem?_getD, List.getElem?_append_left (by omega)]
/-- The copies on their way. -/
structure IR (w0 wr : World) (ms : List Cm) (i : Nat) (p : Option Addr) (c : Nat) (L : List Cm) : Prop where
  qr : QR w0.heap.size wr p i c L
  alk : ∀ j, j < i → ∃ a b, ms[j]? = some a ∧ L[j]? = some b ∧ Alk a b
  sp : ∀ m ∈ L, Sp wr m
  kept : Kept (fun _ => False) w0 wr
theorem IR.k0 {w0 wr w' : World} {ms : List Cm} {i : Nat} {p : Option Addr} {c : Nat} {L : List Cm} (h : IR w0 wr ms i p c L) (K : Kept (fun _ => False) wr w') : IR w0 w' ms i p c L := ⟨h.qr.k0 K, h.alk, fun m hm => (h.sp m hm).k0 K, h.kept.trans K (fun _ _ z => z)⟩
theorem IR.nil (w0 : World) (ms : List Cm) : IR w0 w0 ms 0 none 0 [] := ⟨⟨⟨rfl, ⟨rfl, .inl ⟨rfl, rfl⟩⟩⟩, (fun _ h => absurd h (by simp)), (fun _ h => absurd h (by simp))⟩, fun j hj => absurd hj (by omega), (fun _ h => absurd h (by simp)), Kept.refl _ _⟩
theorem IR.grow {w0 X w9 : World} {ms : List Cm} {i : Nat} {p p9 : Option Addr} {c c9 : Nat} {L : List Cm} {a m : Cm} {o : Obj} (h : IR w0 X ms i p c L) (ha : ms[i]? = some a) (hk : Alk a m) (rm : Reads X m.va m.vn m.vc m.val) (sm : Sp X m) (ho : w9.ownsRow w0.heap.size 33 11 (.slice p9 (i + 1) c9) (i + 1) (ccells L ++ ccells [m])) (hg : (X.alloc o).grownBy w9 (Value.slice p i c).ownBlock) : IR w0 w9 ms (i + 1) p9 c9 (L ++ [m]) := by
  have A := (Kept.refl (fun _ => False) X).alloc o
  have Q := (h.qr.k0 A).grow (news := [m]) (n := 1) rfl (fun y hy => by rw [List.mem_singleton.1 hy]; exact Reads.kept A rm (fun _ _ z => z)) (fun y hy ad had => by
    rw [List.mem_singleton.1 hy] at had
    obtain ⟨g, C, h1, h2, _⟩ := sm
    rw [h1] at had
    injection had with had
    subst had
    exact ⟨C, _, A.get h2 (fun z => z)⟩) ho hg (h.kept.alloc o) (Nat.le_refl _)
  have KG : Kept (fun j => blockOf p = some j) (X.alloc o) w9 := (Kept.refl (fun j => blockOf p = some j) _).grown hg (fun j _ z => by rw [blockOf_own] at z; exact z)
  refine ⟨Q.1, fun j hj => ?_, fun y hy => ?_, Q.2⟩
  · rcases Nat.lt_succ_iff_lt_or_eq.1 hj with z | z
    · obtain ⟨x, y, h1, h2, h3⟩ := h.alk j z
      exact ⟨x, y, h1, by rw [List.getElem?_append_left (List.getElem?_eq_some_iff.1 h2).1]; exact h2, h3⟩
    · subst z
      refine ⟨a, m, ha, ?_, hk⟩
      rw [List.getElem?_append_right (by rw [h.qr.row.len]; exact Nat.le_refl _), h.qr.row.len, Nat.sub_self]
      rfl
  · have sy : Sp X y := by
      rcases List.mem_append.1 hy with z | z
      · exact h.sp y z
      · rw [List.mem_singleton.1 z]
        exact sm
    obtain ⟨g, C, h1, h2, h3⟩ := sy.k0 A
    refine ⟨g, C, h1, KG.get h2 (fun z => ?_), h3⟩
    exact not_own (a := ⟨g, 0, none⟩) (h.qr.k0 A).row ⟨C, _, h2⟩ z
theorem IR.cl {w0 wr : World} {ms : List Cm} {p : Option Addr} {c n : Nat} {L : List Cm} (h : IR w0 wr ms n p c L) (hn : ms.length = n) : L.map Cm.cl = ms.map Cm.cl := by
  refine List.ext_getElem? fun j => ?_
  rw [List.getElem?_map, List.getElem?_map]
  by_cases hj : j < n
  · obtain ⟨a, b, h1, h2, h3⟩ := h.alk j hj
    rw [h1, h2]
    show some b.cl = some a.cl
    rw [h3.cl]
  · rw [List.getElem?_eq_none (by rw [h.qr.row.len]; omega), List.getElem?_eq_none (by omega)]
theorem src_seven {w : World} {b : Nat} (h : w.heap[b]? = some (.cells #[.int .u8 7] 5 (0, 0))) : Src Try.prog 1 29 (.slice (some ⟨b, 0, none⟩) 1 1) 1 (cellsOf [7]) w :=
  Src.ofSlice w Try.underlying29 ⟨b, 0, none⟩ 1 1 (cellsOf [7]) rfl (fun j u hj => by
    rw [Addr.add_none, Nat.zero_add]
    refine cell_blk h j ?_
    have hj : ([Value.int .u8 7] : List Value)[j]? = some u := hj
    simpa using hj) (cellsOf_one [7])
theorem bl_calls {i n : Nat} (hi : i < n) (hn : n ≤ 1300000000000) : i + 1 ≤ maxLen ∧ ((i + 1) + (i + 1) / 4 + 192) * 112 ≤ 281474976710656 := by
  unfold maxLen
  omega
theorem sl3 (g len cap mn : Nat) (hm : mn ≤ cap) (W : World) : (Instr.slice 23 (.slice (some ⟨g, 0, none⟩) len cap) none (some (.int .i64 (mn : Int))) none).run Try.prog W = .ok (.slice (some ⟨g, 0, none⟩) mn cap) W := by
  simp [Instr.slice, Instr.sliceBounds, Instr.sliceBound, asIntOf, run_underlying Try.underlying23, go_sem, hm]
theorem sl3b (g len cap mn : Nat) (hm : mn ≤ cap) (W : World) : (Instr.slice 29 (.slice (some ⟨g, 0, none⟩) len cap) none (some (.int .i64 (mn : Int))) none).run Try.prog W = .ok (.slice (some ⟨g, 0, none⟩) mn cap) W := by
  simp [Instr.slice, Instr.sliceBounds, Instr.sliceBound, asIntOf, run_underlying Try.underlying29, go_sem, hm]
/-- The mark behind the calls. -/
def m7 : Cm := ⟨-7, 0, false, ⟨#[]⟩, none, 0, 0, 0, 0, 0, false, 0, 0, []⟩
/-- The copies, with a mark behind them. -/
structure IN (w0 wr : World) (ms : List Cm) (n g c : Nat) (L : List Cm) : Prop where
  qr : QR w0.heap.size wr (some ⟨g, 0, none⟩) (n + 1) c (L ++ [m7])
  len : L.length = n
  alk : ∀ j, j < n → ∃ a b, ms[j]? = some a ∧ L[j]? = some b ∧ Alk a b
  sp : ∀ m ∈ L, Sp wr m
  kept : Kept (fun _ => False) w0 wr
theorem IN.k0 {w0 wr w' : World} {ms : List Cm} {n g c : Nat} {L : List Cm} (h : IN w0 wr ms n g c L) (K : Kept (fun _ => False) wr w') : IN w0 w' ms n g c L := ⟨h.qr.k0 K, h.len, h.alk, fun m hm => (h.sp m hm).k0 K, h.kept.trans K (fun _ _ z => z)⟩
theorem IR.last {w0 X w9 : World} {ms : List Cm} {i : Nat} {p p9 : Option Addr} {c c9 : Nat} {L : List Cm} {o : Obj} (h : IR w0 X ms i p c L) (ho : w9.ownsRow w0.heap.size 33 11 (.slice p9 (i + 1) c9) (i + 1) (ccells L ++ ccells [m7])) (hg : (X.alloc o).grownBy w9 (Value.slice p i c).ownBlock) : ∃ g, p9 = some ⟨g, 0, none⟩ ∧ i + 1 ≤ c9 ∧ IN w0 w9 ms i g c9 L := by
  have A := (Kept.refl (fun _ => False) X).alloc o
  have Q := (h.qr.k0 A).grow (news := [m7]) (n := 1) rfl (fun y hy => by rw [List.mem_singleton.1 hy]; exact Reads.nil _) (fun y hy ad had => by
    rw [List.mem_singleton.1 hy] at had
    cases had) ho hg (h.kept.alloc o) (Nat.le_refl _)
  have KG : Kept (fun j => blockOf p = some j) (X.alloc o) w9 := (Kept.refl (fun j => blockOf p = some j) _).grown hg (fun j _ z => by rw [blockOf_own] at z; exact z)
  obtain ⟨g, rfl, _, _⟩ := Q.1.ptr (by omega)
  refine ⟨g, rfl, (own_room ho).1, Q.1, h.qr.row.len, h.alk, fun y hy => ?_, Q.2⟩
  obtain ⟨g, C, h1, h2, h3⟩ := (h.sp y hy).k0 A
  refine ⟨g, C, h1, KG.get h2 (fun z => ?_), h3⟩
  exact not_own (a := ⟨g, 0, none⟩) (h.qr.k0 A).row ⟨C, _, h2⟩ z
theorem IN.cl {w0 wr : World} {ms : List Cm} {n g c : Nat} {L : List Cm} (h : IN w0 wr ms n g c L) (hn : ms.length = n) : L.map Cm.cl = ms.map Cm.cl := by
  refine List.ext_getElem? fun j => ?_
  rw [List.getElem?_map, List.getElem?_map]
  by_cases hj : j < n
  · obtain ⟨a, b, h1, h2, h3⟩ := h.alk j hj
    rw [h1, h2]
    show some b.cl = some a.cl
    rw [h3.cl]
  · rw [List.getElem?_eq_none (by rw [h.len]; omega), List.getElem?_eq_none (by omega)]
theorem IN.crd {w0 wr : World} {ms : List Cm} {n g c : Nat} {L : List Cm} (h : IN w0 wr ms n g c L) : CRd wr (some ⟨g, 0, none⟩) n c L := by
  have := crd_take h.qr.crd (i := n) (by omega)
  rw [List.take_append_of_le_length (by rw [h.len]; exact Nat.le_refl _), List.take_of_length_le (by rw [h.len]; exact Nat.le_refl _)] at this
  exact this
theorem IN.mark {w0 wr : World} {ms : List Cm} {n g c : Nat} {L : List Cm} (h : IN w0 wr ms n g c L) : wr.cell? ⟨g, n * 11, none⟩ = some (.int .i64 (-7)) := by
  have := h.qr.at (i := n) (m := m7) (by rw [List.getElem?_append_right (by rw [h.len]; exact Nat.le_refl _), h.len, Nat.sub_self]; rfl) 0 (v := .int .i64 (-7)) rfl
  exact this
theorem IN.at {w0 wr : World} {ms : List Cm} {n g c : Nat} {L : List Cm} (h : IN w0 wr ms n g c L) {i : Nat} {b : Cm} (hb : L[i]? = some b) (j : Nat) {v : Value} (hv : b.cs[j]? = some v) : wr.cell? ⟨g, i * 11 + j, none⟩ = some v :=
  h.qr.at (i := i) (by rw [List.getElem?_append_left (List.getElem?_eq_some_iff.1 hb).1]; exact hb) j hv
theorem wrap_one {v v1 : Nat} (h : v + 1 ≤ 140737488355328) (e : v1 = v + 1) : wrap64 ((v : Int) + 1) = (v1 : Int) ∧ IntKind.i64.wrap ((v : Int) + 1) = (v1 : Int) ∧ (v : Int) < (v1 : Int) := by
  refine ⟨by unfold wrap64; omega, by rw [IntKind.wrap_i64]; omega, by omega⟩
theorem sl3c {gv vn vc v1 : Nat} (h : vn + 1 ≤ vc) (e : v1 = vn + 1) (V : World) : (Instr.slice 29 (.slice (some ⟨gv, 0, none⟩) vn vc) none (some (.int .i64 (v1 : Int))) none).run Try.prog V = .ok (.slice (some ⟨gv, 0, none⟩) v1 vc) V := sl3b gv vn vc v1 (by omega) V
end Go.Proofs.Ytginpoofeliimaa
