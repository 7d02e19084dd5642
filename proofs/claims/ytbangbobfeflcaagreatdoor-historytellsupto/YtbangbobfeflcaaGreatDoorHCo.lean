import Derived.Test.YtbangbobfeflcaaGreatDoorHModJ
import Derived.Laws.Rows
import Derived.Laws.Tables
import Derived.Deep.Cut
import Derived.Deep.RegionHeldLaw
import Derived.BigQuiet
namespace Go.Proofs.YtbangbobfeflcaaGreatDoor
open Go.RowKit 

/-- A call, with the bytes that it leads to. -/
structure Ca where
  client : Int
  op : Int
  put : Bool
  key : ByteArray
  va : Option Addr
  vn : Nat
  vc : Nat
  st : Int
  frm : Int
  too : Int
  opn : Bool
  tx : Int
  ty : Int
  val : List Nat
def Ca.cs (c : Ca) : Array Value := #[.int .i64 c.client, .int .i64 c.op, .bool c.put, .string c.key, .slice c.va c.vn c.vc, .int .i64 c.st, .int .i64 c.frm, .int .i64 c.too, .bool c.opn, .int .i64 c.tx, .int .i64 c.ty]
def Ca.cc (c : Ca) : Cc := ⟨c.client, c.op, c.put, c.key, c.val, c.st, c.frm, c.too, c.opn, c.tx, c.ty⟩
def zeroK : Array Value := #[.int .i64 0, .int .i64 0, .bool false, .string ⟨#[]⟩, .slice none 0 0, .int .i64 0, .int .i64 0, .int .i64 0, .bool false, .int .i64 0, .int .i64 0]
theorem kept_row {S : Nat → Prop} {a b : World} (h : Kept S a b) {g : Nat} (cs : Array Value) (hg : g < a.heap.size → S g) : Kept S a (b.setRow g cs) :=
  ⟨h.os, h.tape, h.output, by rw [size_setRow]; exact h.size, fun i hi hn => by
    rw [setRow_other b g i cs (fun z => hn (by rw [z] at hi ⊢; exact hg hi))]
    exact h.block i hi hn⟩
/-- The call on its way: it lies in a box, what is answered in another. -/
structure CO (w W6 : World) (B4 B6 : Nat) (c : Ca) : Prop where
  b6 : W6.heap[B6]? = some (.cells c.cs 58 (0, 0))
  b4 : W6.heap[B4]? = some (.cells zeroK 58 (0, 0))
  kept : Kept (fun _ => False) w W6
  row : W6.ownsRow w.heap.size 5 1 (.slice c.va c.vn c.vc) c.vn (cellsOf c.val)
  ne : B6 ≠ B4 ∧ w.heap.size ≤ B6 ∧ w.heap.size ≤ B4
theorem CO.done {w W6 : World} {B4 B6 : Nat} {c : Ca} (h : CO w W6 B4 B6 c) : (W6.setRow B4 c.cs).heap[B4]? = some (.cells c.cs 58 (0, 0)) ∧ Kept (fun _ => False) w (W6.setRow B4 c.cs) ∧ (W6.setRow B4 c.cs).ownsRow w.heap.size 5 1 (.slice c.va c.vn c.vc) c.vn (cellsOf c.val) := by
  refine ⟨setRow_heap W6 B4 _ _ 58 (0, 0) h.b4, kept_row h.kept _ (fun z => by have := h.ne.2.2; omega), ?_⟩
  refine (kept_row (Kept.refl (fun j => j = B4) W6) c.cs (fun _ => rfl)).owns h.row (fun j z y => ?_)
  rw [blockOf_own] at z
  obtain ⟨cs, q⟩ := own_type h.row j z
  have y : j = B4 := y
  rw [y, h.b4] at q
  simp at q
theorem CO.k0 {w W W' : World} {B4 B6 : Nat} {c : Ca} (h : CO w W B4 B6 c) (k : Kept (fun _ => False) W W') : CO w W' B4 B6 c := ⟨k.get h.b6 (fun z => z), k.get h.b4 (fun z => z), h.kept.trans k (fun _ _ z => z), k.owns h.row (fun _ _ z => z), h.ne⟩
theorem CO.set {w W : World} {B4 B6 : Nat} {c c' : Ca} (h : CO w W B4 B6 c) (k : Nat) (u : Value) (e1 : c'.cs = c.cs.setIfInBounds k u) (e2 : c'.va = c.va ∧ c'.vn = c.vn ∧ c'.vc = c.vc ∧ c'.val = c.val) : CO w (W.setCell ⟨B6, k, none⟩ u) B4 B6 c' := by
  refine ⟨by rw [e1]; exact set_heap h.b6 k u, by rw [set_other k u h.ne.1.symm]; exact h.b4, h.kept.setCell (p := ⟨B6, k, none⟩) (fun z => by have z : B6 < w.heap.size := z; have := h.ne.2.1; omega) u, ?_, h.ne⟩
  rw [e2.1, e2.2.1, e2.2.2.1, e2.2.2.2]
  refine ((Kept.refl (fun j => j = B6) W).setCell (p := ⟨B6, k, none⟩) (fun _ => rfl) u).owns h.row (fun j z y => ?_)
  rw [blockOf_own] at z
  obtain ⟨cs, q⟩ := own_type h.row j z
  have y : j = B6 := y
  rw [y, h.b6] at q
  simp at q
theorem CO.val {w V : World} {B4 B6 : Nat} {c : Ca} (h : CO w V B4 B6 c) {l : List Nat} {p : Option Addr} {n cc : Nat} (o2 : V.ownsRow w.heap.size 5 1 (.slice p n cc) n (cellsOf l)) : CO w (V.setCell ⟨B6, 4, none⟩ (.slice p n cc)) B4 B6 { c with va := p, vn := n, vc := cc, val := l } := by
  refine ⟨set_heap h.b6 4 _, by rw [set_other 4 _ h.ne.1.symm]; exact h.b4, h.kept.setCell (p := ⟨B6, 4, none⟩) (fun z => by have z : B6 < w.heap.size := z; have := h.ne.2.1; omega) _, ?_, h.ne⟩
  refine ((Kept.refl (fun j => j = B6) V).setCell (p := ⟨B6, 4, none⟩) (fun _ => rfl) _).owns o2 (fun j z y => ?_)
  rw [blockOf_own] at z
  obtain ⟨cs, r⟩ := own_type o2 j z
  have y : j = B6 := y
  rw [y, h.b6] at r
  simp at r
theorem CO.off {w V : World} {B4 B6 : Nat} {c : Ca} (h : CO w V B4 B6 c) {l : List Nat} {p : Option Addr} {n cc : Nat} (o2 : V.ownsRow w.heap.size 5 1 (.slice p n cc) n (cellsOf l)) (k : Nat) (u : Value) : (V.setCell ⟨B6, k, none⟩ u).ownsRow w.heap.size 5 1 (.slice p n cc) n (cellsOf l) := by
  refine ((Kept.refl (fun j => j = B6) V).setCell (p := ⟨B6, k, none⟩) (fun _ => rfl) u).owns o2 (fun j z y => ?_)
  rw [blockOf_own] at z
  obtain ⟨cs, r⟩ := own_type o2 j z
  have y : j = B6 := y
  rw [y, h.b6] at r
  simp at r
theorem reads_lt {w : World} {a : Option Addr} {n c : Nat} {l : List Nat} (h : Reads w a n c l) (h0 : 0 < n) (ad : Addr) (ha : a = some ad) : ad.block < w.heap.size := by
  obtain ⟨b, off, e, hc⟩ := h.cells h0
  rw [ha] at e
  rw [Option.some.inj e]
  exact block_lt_of_cell (hc 0 h0)
def RetCa (Q : Ca → World → Prop) (o : Ending) (w : World) : Prop := ∃ c : Ca, o = .returned (.agg c.cs) ∧ Q c w
theorem RetCa.mk {Q : Ca → World → Prop} {o : Ending} {w : World} (c : Ca) (h : o = .returned (.agg c.cs)) (q : Q c w) : RetCa Q o w := ⟨c, h, q⟩
set_option maxRecDepth 100000 in
set_option maxHeartbeats 4000000 in
theorem hCallOf {w : World} {p0 : Option Addr} {n c0 : Nat} {es : List Ev} (er : ERd w p0 n c0 es) {gq kq cq : Nat} {PL : List Nat} (ow : w.ownsRow 0 3 1 (.slice (some ⟨gq, 0, none⟩) kq cq) kq (intsN PL)) {p : Nat} {e : Ev} (h0 : PL[0]? = some p) (he : es[p]? = some e) (hp : ∀ r ∈ PL, r < n) (hv : ∀ x ∈ es, x.vn + 1 ≤ 140737488355328) : Calls Tryz.prog 45 #[.slice p0 n c0, .slice (some ⟨gq, 0, none⟩) kq cq] w (RetCa fun c w' => some c.cc = callP es PL ∧ w'.ownsRow w.heap.size 5 1 (.slice c.va c.vn c.vc) c.vn (cellsOf c.val) ∧ Kept (fun _ => False) w w') := by
  have rm := er.room
  have sm := er.small
  unfold maxLen at sm
  have pn : p < n := by rw [← er.len]; exact (List.getElem?_eq_some_iff.1 he).1
  have p1 : (p : Int) < (n : Int) := by omega
  have kl : PL.length = kq := by
    have := ow.1
    unfold intsN at this
    rw [List.length_map] at this
    omega
  have k0 : 0 < kq := by have := (List.getElem?_eq_some_iff.1 h0).1; omega
  have k1 : (0 : Int) < (kq : Int) := by omega
  have rq := own_room ow
  have rq1 := rq.1
  have rq2 := rq.2
  unfold maxLen at rq2
  have cq0 : w.cell? ⟨gq, 0, none⟩ = some (.int .i64 (p : Int)) := by
    have := ow.cells (g := gq) rfl 0 (.int .i64 (p : Int)) (by
      unfold intsN
      rw [List.getElem?_map, h0]
      rfl)
    exact this
  obtain ⟨W1, hW1⟩ : ∃ W1, W1 = w.alloc (.cells #[.int .i64 0, .int .i64 0, .bool false, .string ⟨#[]⟩, .slice none 0 0, .int .i64 0, .int .i64 0, .int .i64 0, .bool false, .int .i64 0, .int .i64 0] 58) := ⟨_, rfl⟩
  obtain ⟨B4, hB4⟩ : ∃ B4, B4 = w.heap.size := ⟨_, rfl⟩
  have K1 : Hid (Kept (fun _ => False) w W1) := by rw [hW1]; exact (Kept.refl _ _).alloc _
  have E1 : Hid (W1 = w.alloc (.cells #[.int .i64 0, .int .i64 0, .bool false, .string ⟨#[]⟩, .slice none 0 0, .int .i64 0, .int .i64 0, .int .i64 0, .bool false, .int .i64 0, .int .i64 0] 58) ∧ B4 = w.heap.size) := ⟨hW1, hB4⟩
  have cw0 := K1.out.cell cq0 (fun z => z)
  obtain ⟨b, off, e', rfl, he', c0', c1, c2, c3, c4, c5, c6, c7, c8, rd⟩ := (er.k0 K1.out).at pn
  have ee : e = e' := by rw [he] at he'; exact Option.some.inj he'
  subst ee
  obtain ⟨W2, hW2⟩ : ∃ W2, W2 = W1.alloc (.cells #[.int .i64 e.kind, .int .i64 e.client, .int .i64 e.op, .bool e.put, .string e.key, .slice e.va e.vn e.vc, .int .i64 e.st, .int .i64 e.tx, .int .i64 e.ty] 39) := ⟨_, rfl⟩
  obtain ⟨B5, hB5⟩ : ∃ B5, B5 = W1.heap.size := ⟨_, rfl⟩
  have K2 : Hid (Kept (fun _ => False) W1 W2) := by rw [hW2]; exact (Kept.refl _ _).alloc _
  have E2 : Hid (W2 = W1.alloc (.cells #[.int .i64 e.kind, .int .i64 e.client, .int .i64 e.op, .bool e.put, .string e.key, .slice e.va e.vn e.vc, .int .i64 e.st, .int .i64 e.tx, .int .i64 e.ty] 39) ∧ B5 = W1.heap.size) := ⟨hW2, hB5⟩
  have BB : Hid (W2.heap[B5]? = some (.cells #[.int .i64 e.kind, .int .i64 e.client, .int .i64 e.op, .bool e.put, .string e.key, .slice e.va e.vn e.vc, .int .i64 e.st, .int .i64 e.tx, .int .i64 e.ty] 39 (0, 0))) := by rw [hW2, hB5]; exact alloc_new _ _
  have CB : Hid (∀ V, Kept (fun _ => False) W2.drew V → V.cell? ⟨B5, 1, none⟩ = some (.int .i64 e.client) ∧ V.cell? ⟨B5, 2, none⟩ = some (.int .i64 e.op) ∧ V.cell? ⟨B5, 3, none⟩ = some (.bool e.put) ∧ V.cell? ⟨B5, 4, none⟩ = some (.string e.key) ∧ V.cell? ⟨B5, 5, none⟩ = some (.slice e.va e.vn e.vc) ∧ V.cell? ⟨gq, 0, none⟩ = some (.int .i64 (p : Int))) := fun V kv => by
    have bv := kv.get (show W2.drew.heap[B5]? = _ from BB.out) (fun z => z)
    exact ⟨cell_blk bv 1 rfl, cell_blk bv 2 rfl, cell_blk bv 3 rfl, cell_blk bv 4 rfl, cell_blk bv 5 rfl, kv.cell (K2.out.drew.cell cw0 (fun z => z)) (fun z => z)⟩
  have CC : Hid (∀ V, Kept (fun _ => False) W2.drew V → Calls Tryz.prog 40 #[.slice e.va e.vn e.vc] V (RetL (fun q c' w' => Cl5 V e.val q e.vn c' w') e.vn)) := fun V kv => hClone (Reads.kept kv (Reads.kept K2.out.drew rd (fun _ _ z => z)) (fun _ _ z => z)) (hv e (List.mem_of_getElem? he))
  have kd : Kept (fun _ => False) W2.drew W2.drew := Kept.refl _ _
  have KZ : Kept (fun _ => False) W2.drew (W2.alloc (.cells #[.int .i64 0, .int .i64 0, .bool false, .string ⟨#[]⟩, .slice none 0 0, .int .i64 0, .int .i64 0, .int .i64 0, .bool false, .int .i64 0, .int .i64 0] 58)).drew := by
    have q : Kept (fun _ => False) W2 (W2.alloc (.cells #[.int .i64 0, .int .i64 0, .bool false, .string ⟨#[]⟩, .slice none 0 0, .int .i64 0, .int .i64 0, .int .i64 0, .bool false, .int .i64 0, .int .i64 0] 58)).drew := ((Kept.refl _ _).alloc _).drew
    exact ⟨q.os, q.tape, q.output, q.size, q.block⟩
  clear hW1 hB4 hW2 hB5 rd
  go_enter Tryz.func45, Tryz.ntmps45
  go_upto_region 1 with fail
  rw [← E1.out.1, ← E1.out.2]
  go_upto_region 2 with fail
  rw [← E2.out.1, ← E2.out.2]
  clear c0' c1 c2 c3 c4 c5 c6 c7 c8 cw0 cq0
  refine wp_region_held_drew (S := (fun V => V.cell? ⟨B5, 1, none⟩ = some (.int .i64 e.client) ∧ V.cell? ⟨B5, 2, none⟩ = some (.int .i64 e.op) ∧ V.cell? ⟨B5, 3, none⟩ = some (.bool e.put) ∧ V.cell? ⟨B5, 4, none⟩ = some (.string e.key) ∧ V.cell? ⟨B5, 5, none⟩ = some (.slice e.va e.vn e.vc) ∧ V.cell? ⟨gq, 0, none⟩ = some (.int .i64 (p : Int)))) (by kernel_rfl) ?_ (fun hHeld => ?_)
  · exact CB.out _ kd
  refine wpAnyH_take (i := 0) (oi := { dst := some 15, op := Go.Op.fieldAddr 39 (Go.Operand.tmp 5) 1, type := 0, pos := "history.go:57", after := #[], guard := none }) (v := .pointer (some ⟨B5, 1, none⟩)) rfl (by kernel_rfl) (by kernel_rfl) (by kernel_rfl) (fun _ _ _ h => h) (Or.inl ⟨by rfl, ?_⟩) (by assumption) ?_
  · intro w9 hSw
    (try dsimp only at hSw)
    go_simp
  (try simp only [Act.put, List.setIfInBounds_toArray, List.set_cons_zero, List.set_cons_succ])
  refine wpAnyH_take (i := 1) (oi := { dst := some 16, op := Go.Op.load 3 (Go.Operand.tmp 15), type := 3, pos := "history.go:57", after := #[{ on := 0, ground := Go.Ground.data }], guard := none }) (v := .int .i64 e.client) rfl (by kernel_rfl) (by kernel_rfl) (by kernel_rfl) (fun _ _ _ h => h) (Or.inl ⟨by rfl, ?_⟩) (by assumption) ?_
  · intro w9 hSw
    (try dsimp only at hSw)
    go_simp
  (try simp only [Act.put, List.setIfInBounds_toArray, List.set_cons_zero, List.set_cons_succ])
  refine wpAnyH_take (i := 2) (oi := { dst := some 17, op := Go.Op.fieldAddr 39 (Go.Operand.tmp 5) 2, type := 0, pos := "history.go:57", after := #[], guard := none }) (v := .pointer (some ⟨B5, 2, none⟩)) rfl (by kernel_rfl) (by kernel_rfl) (by kernel_rfl) (fun _ _ _ h => h) (Or.inl ⟨by rfl, ?_⟩) (by assumption) ?_
  · intro w9 hSw
    (try dsimp only at hSw)
    go_simp
  (try simp only [Act.put, List.setIfInBounds_toArray, List.set_cons_zero, List.set_cons_succ])
  refine wpAnyH_take (i := 3) (oi := { dst := some 18, op := Go.Op.load 2 (Go.Operand.tmp 17), type := 2, pos := "history.go:57", after := #[{ on := 2, ground := Go.Ground.data }], guard := none }) (v := .int .i64 e.op) rfl (by kernel_rfl) (by kernel_rfl) (by kernel_rfl) (fun _ _ _ h => h) (Or.inl ⟨by rfl, ?_⟩) (by assumption) ?_
  · intro w9 hSw
    (try dsimp only at hSw)
    go_simp
  (try simp only [Act.put, List.setIfInBounds_toArray, List.set_cons_zero, List.set_cons_succ])
  refine wpAnyH_take (i := 4) (oi := { dst := some 19, op := Go.Op.fieldAddr 39 (Go.Operand.tmp 5) 3, type := 0, pos := "history.go:57", after := #[], guard := none }) (v := .pointer (some ⟨B5, 3, none⟩)) rfl (by kernel_rfl) (by kernel_rfl) (by kernel_rfl) (fun _ _ _ h => h) (Or.inl ⟨by rfl, ?_⟩) (by assumption) ?_
  · intro w9 hSw
    (try dsimp only at hSw)
    go_simp
  (try simp only [Act.put, List.setIfInBounds_toArray, List.set_cons_zero, List.set_cons_succ])
  refine wpAnyH_take (i := 5) (oi := { dst := some 20, op := Go.Op.load 4 (Go.Operand.tmp 19), type := 4, pos := "history.go:57", after := #[{ on := 4, ground := Go.Ground.data }], guard := none }) (v := .bool e.put) rfl (by kernel_rfl) (by kernel_rfl) (by kernel_rfl) (fun _ _ _ h => h) (Or.inl ⟨by rfl, ?_⟩) (by assumption) ?_
  · intro w9 hSw
    (try dsimp only at hSw)
    go_simp
  (try simp only [Act.put, List.setIfInBounds_toArray, List.set_cons_zero, List.set_cons_succ])
  refine wpAnyH_take (i := 6) (oi := { dst := some 21, op := Go.Op.fieldAddr 39 (Go.Operand.tmp 5) 4, type := 0, pos := "history.go:57", after := #[], guard := none }) (v := .pointer (some ⟨B5, 4, none⟩)) rfl (by kernel_rfl) (by kernel_rfl) (by kernel_rfl) (fun _ _ _ h => h) (Or.inl ⟨by rfl, ?_⟩) (by assumption) ?_
  · intro w9 hSw
    (try dsimp only at hSw)
    go_simp
  (try simp only [Act.put, List.setIfInBounds_toArray, List.set_cons_zero, List.set_cons_succ])
  refine wpAnyH_take (i := 7) (oi := { dst := some 22, op := Go.Op.load 9 (Go.Operand.tmp 21), type := 9, pos := "history.go:57", after := #[{ on := 6, ground := Go.Ground.data }], guard := none }) (v := .string e.key) rfl (by kernel_rfl) (by kernel_rfl) (by kernel_rfl) (fun _ _ _ h => h) (Or.inl ⟨by rfl, ?_⟩) (by assumption) ?_
  · intro w9 hSw
    (try dsimp only at hSw)
    go_simp
  (try simp only [Act.put, List.setIfInBounds_toArray, List.set_cons_zero, List.set_cons_succ])
  refine wpAnyH_take (i := 8) (oi := { dst := some 23, op := Go.Op.fieldAddr 39 (Go.Operand.tmp 5) 5, type := 0, pos := "history.go:57", after := #[], guard := none }) (v := .pointer (some ⟨B5, 5, none⟩)) rfl (by kernel_rfl) (by kernel_rfl) (by kernel_rfl) (fun _ _ _ h => h) (Or.inl ⟨by rfl, ?_⟩) (by assumption) ?_
  · intro w9 hSw
    (try dsimp only at hSw)
    go_simp
  (try simp only [Act.put, List.setIfInBounds_toArray, List.set_cons_zero, List.set_cons_succ])
  refine wpAnyH_take (i := 9) (oi := { dst := some 24, op := Go.Op.load 34 (Go.Operand.tmp 23), type := 34, pos := "history.go:57", after := #[{ on := 8, ground := Go.Ground.data }], guard := none }) (v := .slice e.va e.vn e.vc) rfl (by kernel_rfl) (by kernel_rfl) (by kernel_rfl) (fun _ _ _ h => h) (Or.inl ⟨by rfl, ?_⟩) (by assumption) ?_
  · intro w9 hSw
    (try dsimp only at hSw)
    go_simp
  (try simp only [Act.put, List.setIfInBounds_toArray, List.set_cons_zero, List.set_cons_succ])
  refine wpAnyH_take (i := 11) (oi := { dst := some 26, op := Go.Op.move (Go.Operand.tmp 1), type := 70, pos := "history.go:57", after := #[], guard := none }) (v := .slice (some ⟨gq, 0, none⟩) kq cq) rfl (by kernel_rfl) (by kernel_rfl) (by kernel_rfl) (fun _ _ _ h => h) (Or.inl ⟨by rfl, ?_⟩) (by assumption) ?_
  · intro w9 hSw
    (try dsimp only at hSw)
    go_simp
  (try simp only [Act.put, List.setIfInBounds_toArray, List.set_cons_zero, List.set_cons_succ])
  refine wpAnyH_take (i := 12) (oi := { dst := some 27, op := Go.Op.indexAddr 70 (Go.Operand.tmp 26) (Go.Operand.const (Go.Value.int Go.IntKind.i64 0)), type := 0, pos := "history.go:57", after := #[{ on := 11, ground := Go.Ground.data }], guard := none }) (v := .pointer (some ⟨gq, 0, none⟩)) rfl (by kernel_rfl) (by kernel_rfl) (by kernel_rfl) (fun _ _ _ h => h) (Or.inl ⟨by rfl, ?_⟩) (by assumption) ?_
  · intro w9 hSw
    (try dsimp only at hSw)
    go_simp
  (try simp only [Act.put, List.setIfInBounds_toArray, List.set_cons_zero, List.set_cons_succ])
  refine wpAnyH_take (i := 13) (oi := { dst := some 28, op := Go.Op.load 3 (Go.Operand.tmp 27), type := 3, pos := "history.go:57", after := #[{ on := 12, ground := Go.Ground.data }], guard := none }) (v := .int .i64 (p : Int)) rfl (by kernel_rfl) (by kernel_rfl) (by kernel_rfl) (fun _ _ _ h => h) (Or.inl ⟨by rfl, ?_⟩) (by assumption) ?_
  · intro w9 hSw
    (try dsimp only at hSw)
    go_simp
  (try simp only [Act.put, List.setIfInBounds_toArray, List.set_cons_zero, List.set_cons_succ])
  refine wpAnyH_take (i := 14) (oi := { dst := some 29, op := Go.Op.fieldAddr 39 (Go.Operand.tmp 5) 3, type := 0, pos := "history.go:57", after := #[], guard := none }) (v := .pointer (some ⟨B5, 3, none⟩)) rfl (by kernel_rfl) (by kernel_rfl) (by kernel_rfl) (fun _ _ _ h => h) (Or.inl ⟨by rfl, ?_⟩) (by assumption) ?_
  · intro w9 hSw
    (try dsimp only at hSw)
    go_simp
  (try simp only [Act.put, List.setIfInBounds_toArray, List.set_cons_zero, List.set_cons_succ])
  refine wpAnyH_take (i := 15) (oi := { dst := some 30, op := Go.Op.load 4 (Go.Operand.tmp 29), type := 4, pos := "history.go:57", after := #[{ on := 14, ground := Go.Ground.data }], guard := none }) (v := .bool e.put) rfl (by kernel_rfl) (by kernel_rfl) (by kernel_rfl) (fun _ _ _ h => h) (Or.inl ⟨by rfl, ?_⟩) (by assumption) ?_
  · intro w9 hSw
    (try dsimp only at hSw)
    go_simp
  (try simp only [Act.put, List.setIfInBounds_toArray, List.set_cons_zero, List.set_cons_succ])
  refine wpAnyH_ready (rs := [10, 17]) (by kernel_rfl) (by simp) ?_
  refine (AllReadyH.cons (o := { dst := some 25, op := Go.Op.call { callee := Go.Callee.value (Go.Operand.func 40), args := #[Go.Operand.tmp 24], argTypes := #[34] }, type := 34, pos := "history.go:57", after := #[{ on := 9, ground := Go.Ground.data }], guard := none }) rfl (fun K hK => ?_) (AllReadyH.cons (o := { dst := some 6, op := Go.Op.alloc 58, type := 0, pos := "history.go:57", after := #[], guard := none }) rfl (fun K hK => ?_) AllReadyH.nil))
  · go_simp
    refine (CC.out _ (by assumption)).mono ?_
    rintro o w3 ⟨p9, c9, rfl, cl9⟩
    have K3 : Kept (fun _ => False) W2.drew w3 := cl9.kept
    refine hK.out _ _ ?_ (fun hHeld => ?_)
    · exact CB.out _ K3
    clear hK K
    (try simp only [Act.put, List.setIfInBounds_toArray, List.set_cons_zero, List.set_cons_succ])
    refine wpAnyH_take (i := 16) (oi := { dst := some 31, op := Go.Op.build 58 #[(0, Go.Operand.tmp 16), (1, Go.Operand.tmp 18), (2, Go.Operand.tmp 20), (3, Go.Operand.tmp 22), (4, Go.Operand.tmp 25), (6, Go.Operand.tmp 28), (7, Go.Operand.const (Go.Value.int Go.IntKind.i64 (-1))), (8, Go.Operand.tmp 30)], type := 58, pos := "history.go:57", after := #[{ on := 1, ground := Go.Ground.data }, { on := 3, ground := Go.Ground.data }, { on := 5, ground := Go.Ground.data }, { on := 7, ground := Go.Ground.data }, { on := 10, ground := Go.Ground.data }, { on := 13, ground := Go.Ground.data }, { on := 15, ground := Go.Ground.data }], guard := none }) (v := .agg #[.int .i64 e.client, .int .i64 e.op, .bool e.put, .string e.key, .slice p9 e.vn c9, .int .i64 0, .int .i64 (p : Int), .int .i64 (-1), .bool e.put, .int .i64 0, .int .i64 0]) rfl (by kernel_rfl) (by kernel_rfl) (by kernel_rfl) (fun _ _ _ h => h) (Or.inl ⟨by rfl, ?_⟩) (by assumption) ?_
    · intro w9 hSw
      (try dsimp only at hSw)
      go_simp
    (try simp only [Act.put, List.setIfInBounds_toArray, List.set_cons_zero, List.set_cons_succ])

    refine wpAnyH_ready (rs := [17]) (by kernel_rfl) (by simp) ?_
    refine (AllReadyH.cons (o := { dst := some 6, op := Go.Op.alloc 58, type := 0, pos := "history.go:57", after := #[], guard := none }) rfl (fun K hK => ?_) AllReadyH.nil)
    go_simp
    refine hK.out _ _ ?_ (fun hHeld => ?_)
    · exact CB.out _ (by first | exact K3.alloc _ | exact (K3.alloc _).drew)
    clear hK K
    (try simp only [Act.put, List.setIfInBounds_toArray, List.set_cons_zero, List.set_cons_succ])
    refine wpAnyH_ready (rs := [18]) (by kernel_rfl) (by simp) ?_
    refine (AllReadyH.cons (o := { dst := none, op := Go.Op.store 58 (Go.Operand.tmp 6) (Go.Operand.tmp 31), type := 0, pos := "history.go:57", after := #[{ on := 17, ground := Go.Ground.data }, { on := 16, ground := Go.Ground.data }, { on := 10, ground := Go.Ground.chain }, { on := 0, ground := Go.Ground.phase }, { on := 1, ground := Go.Ground.phase }, { on := 2, ground := Go.Ground.phase }, { on := 3, ground := Go.Ground.phase }, { on := 4, ground := Go.Ground.phase }, { on := 5, ground := Go.Ground.phase }, { on := 6, ground := Go.Ground.phase }, { on := 7, ground := Go.Ground.phase }, { on := 8, ground := Go.Ground.phase }, { on := 9, ground := Go.Ground.phase }, { on := 10, ground := Go.Ground.phase }, { on := 11, ground := Go.Ground.phase }, { on := 12, ground := Go.Ground.phase }, { on := 13, ground := Go.Ground.phase }, { on := 14, ground := Go.Ground.phase }, { on := 15, ground := Go.Ground.phase }, { on := 16, ground := Go.Ground.phase }, { on := 17, ground := Go.Ground.phase }], guard := none }) rfl (fun K hK => ?_) AllReadyH.nil)
    go_simp
    refine hK.out _ _ ?_ (fun hHeld => ?_)
    · exact CB.out _ (by first | exact K3.alloc _ | exact (K3.alloc _).drew)
    clear hK K
    (try simp only [Act.put])
    refine wpAnyH_done (by kernel_rfl) ?_ _
    obtain ⟨W6, hW6⟩ : ∃ W6, W6 = w3.alloc (.cells #[.int .i64 e.client, .int .i64 e.op, .bool e.put, .string e.key, .slice p9 e.vn c9, .int .i64 0, .int .i64 (p : Int), .int .i64 (-1), .bool e.put, .int .i64 0, .int .i64 0] 58) := ⟨_, rfl⟩
    obtain ⟨B6, hB6⟩ : ∃ B6, B6 = w3.heap.size := ⟨_, rfl⟩
    have F6 : Hid (CO w W6 B4 B6 ⟨e.client, e.op, e.put, e.key, p9, e.vn, c9, 0, (p : Int), -1, e.put, 0, 0, e.val⟩) := by
      have K36 : Kept (fun _ => False) w3 W6 := by rw [hW6]; exact (Kept.refl _ _).alloc _
      have k1s := K1.out.size
      have k3 : Kept (fun _ => False) W1 w3 := (K2.out.drew).trans K3 (fun _ _ z => z)
      have l1 : B4 < W1.heap.size := by have := E1.out.1; have := E1.out.2; rw [E1.out.1, alloc_size]; omega
      refine ⟨by rw [hW6, hB6]; exact alloc_new _ _, K36.get (k3.get (by rw [E1.out.1, E1.out.2]; exact alloc_new _ _) (fun z => z)) (fun z => z), K1.out.trans (k3.trans K36 (fun _ _ z => z)) (fun _ _ z => z), ?_, ?_, ?_, ?_⟩
      · exact owns_mono (K36.owns cl9.row (fun _ _ z => z)) (Nat.le_trans K1.out.size (K2.out.drew).size)
      · have := k3.size
        omega
      · have := k3.size
        omega
      · have := E1.out.2
        omega
    rw [← hW6, ← hB6]
    clear hW6 hB6 hHeld cl9 K3
    by_cases hk1 : kq = 1
    · have q1 : ((kq : Int) == 1) = true := by simp; omega
      have PL1 : Hid (callP es PL = some (beginC e p)) := by
        have : PL = [p] := by
          match PL, kl, h0 with
          | [x], _, h0 => simpa using h0
          | x :: y :: z, kl, _ => simp at kl; omega
        rw [this]
        show (es[p]?).map _ = _
        rw [he]
        rfl
      have D := F6.out.done
      have FIN : Hid (some (Ca.cc (⟨e.client, e.op, e.put, e.key, p9, e.vn, c9, 0, (p : Int), -1, e.put, 0, 0, e.val⟩)) = callP es PL ∧ (W6.setRow B4 (Ca.cs (⟨e.client, e.op, e.put, e.key, p9, e.vn, c9, 0, (p : Int), -1, e.put, 0, 0, e.val⟩))).ownsRow w.heap.size 5 1 (.slice p9 e.vn c9) e.vn (cellsOf e.val) ∧ Kept (fun _ => False) w (W6.setRow B4 (Ca.cs (⟨e.client, e.op, e.put, e.key, p9, e.vn, c9, 0, (p : Int), -1, e.put, 0, 0, e.val⟩))) ∧ (W6.setRow B4 (Ca.cs (⟨e.client, e.op, e.put, e.key, p9, e.vn, c9, 0, (p : Int), -1, e.put, 0, 0, e.val⟩))).heap[B4]? = some (.cells (Ca.cs (⟨e.client, e.op, e.put, e.key, p9, e.vn, c9, 0, (p : Int), -1, e.put, 0, 0, e.val⟩)) 58 (0, 0))) := ⟨by rw [PL1.out]; rfl, D.2.2, D.2.1, D.1⟩
      have L0 := cell_blk F6.out.b6 0 (v := .int .i64 e.client) rfl
      have L1 := cell_blk F6.out.b6 1 (v := .int .i64 e.op) rfl
      have L2 := cell_blk F6.out.b6 2 (v := .bool e.put) rfl
      have L3 := cell_blk F6.out.b6 3 (v := .string e.key) rfl
      have L4 := cell_blk F6.out.b6 4 (v := .slice p9 e.vn c9) rfl
      have L5 := cell_blk F6.out.b6 5 (v := .int .i64 0) rfl
      have L6 := cell_blk F6.out.b6 6 (v := .int .i64 (p : Int)) rfl
      have L7 := cell_blk F6.out.b6 7 (v := .int .i64 (-1)) rfl
      have L8 := cell_blk F6.out.b6 8 (v := .bool e.put) rfl
      have L9 := cell_blk F6.out.b6 9 (v := .int .i64 0) rfl
      have L10 := cell_blk F6.out.b6 10 (v := .int .i64 0) rfl
      clear D
      go_wp2_with (first | (refine wpList_store_row rfl 58 (.tmp 4) (.tmp 35) rfl B4 (Ca.cs (⟨e.client, e.op, e.put, e.key, p9, e.vn, c9, 0, (p : Int), -1, e.put, 0, 0, e.val⟩)) rfl rfl 58 zeroK F6.out.b4 (by kernel_rfl) rfl (by simp [Value.oneCell', Ca.cs]) ?_) | fail)
      refine bodyPost_ret (results_cell_row rfl _ _ B4 58 (Ca.cs (⟨e.client, e.op, e.put, e.key, p9, e.vn, c9, 0, (p : Int), -1, e.put, 0, 0, e.val⟩)) (0, 0) _ rfl FIN.out.2.2.2 Tryz.underlying58 rfl (by kernel_rfl)) rfl ?_
      exact RetCa.mk (⟨e.client, e.op, e.put, e.key, p9, e.vn, c9, 0, (p : Int), -1, e.put, 0, 0, e.val⟩) rfl ⟨FIN.out.1, FIN.out.2.1, FIN.out.2.2.1⟩
    · have k2 : 1 < kq := by omega
      have k3 : (1 : Int) < (kq : Int) := by omega
      have q1 : ((kq : Int) == 1) = false := by simp; omega
      obtain ⟨q, hq⟩ : ∃ q, PL[1]? = some q := ⟨_, List.getElem?_eq_getElem (by omega)⟩
      have qn : q < n := hp q (List.mem_of_getElem? hq)
      have qn1 : (q : Int) < (n : Int) := by omega
      have cq1 : W6.cell? ⟨gq, 1, none⟩ = some (.int .i64 (q : Int)) := F6.out.kept.cell (ow.cells (g := gq) rfl 1 (.int .i64 (q : Int)) (by
        unfold intsN
        rw [List.getElem?_map, hq]
        rfl)) (fun z => z)
      obtain ⟨b2, off2, x, e2, hx, y0, y1, y2, y3, y4, y5, y6, y7, y8, rd2⟩ := (er.k0 F6.out.kept).at qn
      have e2 : b = b2 ∧ off = off2 := by simpa using e2
      obtain ⟨rfl, rfl⟩ := e2
      have PL2 : Hid (callP es PL = some (endC (beginC e p) x q)) := by
        have : ∃ r, PL = p :: q :: r := by
          match PL, h0, hq with
          | a :: c :: r, h0, hq =>
            have e1 : a = p := by simpa using h0
            have e2 : c = q := by simpa using hq
            exact ⟨r, by rw [e1, e2]⟩
        obtain ⟨r, hr⟩ := this
        rw [hr]
        show (match es[p]?, es[q]? with | some b, some x => some (endC (beginC b p) x q) | _, _ => none) = _
        rw [he, hx]
      obtain ⟨W7, hW7⟩ : ∃ W7, W7 = W6.alloc (.cells #[.int .i64 x.kind, .int .i64 x.client, .int .i64 x.op, .bool x.put, .string x.key, .slice x.va x.vn x.vc, .int .i64 x.st, .int .i64 x.tx, .int .i64 x.ty] 39) := ⟨_, rfl⟩
      obtain ⟨B8, hB8⟩ : ∃ B8, B8 = W6.heap.size := ⟨_, rfl⟩
      have K67 : Hid (Kept (fun _ => False) W6 W7) := by rw [hW7]; exact (Kept.refl _ _).alloc _
      have F7 : Hid (CO w W7 B4 B6 (⟨e.client, e.op, e.put, e.key, p9, e.vn, c9, 0, (p : Int), -1, e.put, 0, 0, e.val⟩)) := F6.out.k0 K67.out
      have B8c : Hid (W7.heap[B8]? = some (.cells #[.int .i64 x.kind, .int .i64 x.client, .int .i64 x.op, .bool x.put, .string x.key, .slice x.va x.vn x.vc, .int .i64 x.st, .int .i64 x.tx, .int .i64 x.ty] 39 (0, 0))) := by rw [hW7, hB8]; exact alloc_new _ _
      have NB : Hid (B8 ≠ B6) := fun z => by
        have := block_lt F6.out.b6
        omega
      have RX : Hid (∀ V, Kept (fun _ => False) W6 V → Reads V x.va x.vn x.vc x.val) := fun V kv => Reads.kept kv rd2 (fun _ _ z => z)
      have E7 : Hid (W7 = W6.alloc (.cells #[.int .i64 x.kind, .int .i64 x.client, .int .i64 x.op, .bool x.put, .string x.key, .slice x.va x.vn x.vc, .int .i64 x.st, .int .i64 x.tx, .int .i64 x.ty] 39) ∧ B8 = W6.heap.size) := ⟨hW7, hB8⟩
      clear hW7 hB8 rd2
      go_upto_region 7 with fail
      rw [← E7.out.1, ← E7.out.2]
      clear E7 y0 y1 y2 y3 y4 y5 y6 y7 y8 cq1
      have G5 := cell_blk F7.out.b6 5 (v := .int .i64 0) rfl
      have G9 := cell_blk F7.out.b6 9 (v := .int .i64 0) rfl
      have G10 := cell_blk F7.out.b6 10 (v := .int .i64 0) rfl
      have f5 := soft_blk F7.out.b6 5
      have f9 := soft_blk F7.out.b6 9
      have f10 := soft_blk F7.out.b6 10
      have s0 := cell_blk B8c.out 6 (v := .int .i64 x.st) rfl
      have s1 := cell_blk B8c.out 7 (v := .int .i64 x.tx) rfl
      have s2 := cell_blk B8c.out 8 (v := .int .i64 x.ty) rfl
      have NB2 := NB.out
      have KA : Hid (Kept (fun j => j = B6) W7 (W7.setCell ⟨B6, 5, none⟩ (.int .i64 x.st)).drew) := ((Kept.refl (fun j => j = B6) W7).setCell (p := ⟨B6, 5, none⟩) (fun _ => rfl) _).drew
      have SH5 : Hid ((W7.setCell ⟨B6, 5, none⟩ (.int .i64 x.st)).drew.cell? ⟨B8, 6, none⟩ = some (.int .i64 x.st) ∧ (W7.setCell ⟨B6, 5, none⟩ (.int .i64 x.st)).drew.cell? ⟨B8, 7, none⟩ = some (.int .i64 x.tx) ∧ (W7.setCell ⟨B6, 5, none⟩ (.int .i64 x.st)).drew.cell? ⟨B8, 8, none⟩ = some (.int .i64 x.ty)) := ⟨KA.out.cell s0 NB.out, KA.out.cell s1 NB.out, KA.out.cell s2 NB.out⟩
      have KB : Hid (Kept (fun j => j = B6) W7 (((W7.setCell ⟨B6, 5, none⟩ (.int .i64 x.st)).setCell ⟨B6, 9, none⟩ (.int .i64 x.tx)).setCell ⟨B6, 10, none⟩ (.int .i64 x.ty)).drew) := ((((Kept.refl (fun j => j = B6) W7).setCell (p := ⟨B6, 5, none⟩) (fun _ => rfl) _).setCell (p := ⟨B6, 9, none⟩) (fun _ => rfl) _).setCell (p := ⟨B6, 10, none⟩) (fun _ => rfl) _).drew
      have SH7 : Hid ((((W7.setCell ⟨B6, 5, none⟩ (.int .i64 x.st)).setCell ⟨B6, 9, none⟩ (.int .i64 x.tx)).setCell ⟨B6, 10, none⟩ (.int .i64 x.ty)).drew.cell? ⟨B8, 6, none⟩ = some (.int .i64 x.st) ∧ (((W7.setCell ⟨B6, 5, none⟩ (.int .i64 x.st)).setCell ⟨B6, 9, none⟩ (.int .i64 x.tx)).setCell ⟨B6, 10, none⟩ (.int .i64 x.ty)).drew.cell? ⟨B8, 7, none⟩ = some (.int .i64 x.tx) ∧ (((W7.setCell ⟨B6, 5, none⟩ (.int .i64 x.st)).setCell ⟨B6, 9, none⟩ (.int .i64 x.tx)).setCell ⟨B6, 10, none⟩ (.int .i64 x.ty)).drew.cell? ⟨B8, 8, none⟩ = some (.int .i64 x.ty)) := ⟨KB.out.cell s0 NB.out, KB.out.cell s1 NB.out, KB.out.cell s2 NB.out⟩
      refine wp_region_held_drew (S := (fun V => V.cell? ⟨B8, 6, none⟩ = some (.int .i64 x.st) ∧ V.cell? ⟨B8, 7, none⟩ = some (.int .i64 x.tx) ∧ V.cell? ⟨B8, 8, none⟩ = some (.int .i64 x.ty))) (by kernel_rfl) ?_ (fun hHeld => ?_)
      · exact ⟨s0, s1, s2⟩
      refine wpAnyH_take (i := 0) (oi := { dst := some 43, op := Go.Op.fieldAddr 39 (Go.Operand.tmp 8) 6, type := 0, pos := "history.go:63", after := #[], guard := none }) (v := .pointer (some ⟨B8, 6, none⟩)) rfl (by kernel_rfl) (by kernel_rfl) (by kernel_rfl) (fun _ _ _ h => h) (Or.inl ⟨by rfl, ?_⟩) (by assumption) ?_
      · intro w9 hSw
        (try dsimp only at hSw)
        go_simp
      (try simp only [Act.put, List.setIfInBounds_toArray, List.set_cons_zero, List.set_cons_succ])
      refine wpAnyH_take (i := 1) (oi := { dst := some 44, op := Go.Op.load 35 (Go.Operand.tmp 43), type := 35, pos := "history.go:63", after := #[{ on := 0, ground := Go.Ground.data }], guard := none }) (v := .int .i64 x.st) rfl (by kernel_rfl) (by kernel_rfl) (by kernel_rfl) (fun _ _ _ h => h) (Or.inl ⟨by rfl, ?_⟩) (by assumption) ?_
      · intro w9 hSw
        (try dsimp only at hSw)
        go_simp
      (try simp only [Act.put, List.setIfInBounds_toArray, List.set_cons_zero, List.set_cons_succ])
      refine wpAnyH_take (i := 2) (oi := { dst := some 45, op := Go.Op.fieldAddr 39 (Go.Operand.tmp 8) 7, type := 0, pos := "history.go:63", after := #[{ on := 5, ground := Go.Ground.gcOnly Go.Departure.lateStores }], guard := none }) (v := .pointer (some ⟨B8, 7, none⟩)) rfl (by kernel_rfl) (by kernel_rfl) (by kernel_rfl) (fun _ _ _ h => h) (Or.inl ⟨by rfl, ?_⟩) (by assumption) ?_
      · intro w9 hSw
        (try dsimp only at hSw)
        go_simp
      (try simp only [Act.put, List.setIfInBounds_toArray, List.set_cons_zero, List.set_cons_succ])
      refine wpAnyH_take (i := 3) (oi := { dst := some 46, op := Go.Op.load 37 (Go.Operand.tmp 45), type := 37, pos := "history.go:63", after := #[{ on := 2, ground := Go.Ground.data }, { on := 5, ground := Go.Ground.gcOnly Go.Departure.lateStores }], guard := none }) (v := .agg #[.int .i64 x.tx, .int .i64 x.ty]) rfl (by kernel_rfl) (by kernel_rfl) (by kernel_rfl) (fun _ _ _ h => h) (Or.inl ⟨by rfl, ?_⟩) (by assumption) ?_
      · intro w9 hSw
        (try dsimp only at hSw)
        go_simp
      (try simp only [Act.put, List.setIfInBounds_toArray, List.set_cons_zero, List.set_cons_succ])
      refine wpAnyH_take (i := 4) (oi := { dst := some 47, op := Go.Op.fieldAddr 58 (Go.Operand.tmp 6) 5, type := 0, pos := "history.go:63", after := #[{ on := 0, ground := Go.Ground.phase }, { on := 1, ground := Go.Ground.phase }, { on := 2, ground := Go.Ground.textOnly Go.Departure.lateStores }, { on := 3, ground := Go.Ground.textOnly Go.Departure.lateStores }], guard := none }) (v := .pointer (some ⟨B6, 5, none⟩)) rfl (by kernel_rfl) (by kernel_rfl) (by kernel_rfl) (fun _ _ _ h => h) (Or.inl ⟨by rfl, ?_⟩) (by assumption) ?_
      · intro w9 hSw
        (try dsimp only at hSw)
        go_simp
      (try simp only [Act.put, List.setIfInBounds_toArray, List.set_cons_zero, List.set_cons_succ])
      refine wpAnyH_ready (rs := [5]) (by kernel_rfl) (by simp) ?_
      refine (AllReadyH.cons (o := { dst := none, op := Go.Op.store 35 (Go.Operand.tmp 47) (Go.Operand.tmp 44), type := 0, pos := "history.go:63", after := #[{ on := 4, ground := Go.Ground.data }, { on := 1, ground := Go.Ground.data }, { on := 0, ground := Go.Ground.phase }, { on := 1, ground := Go.Ground.phase }, { on := 2, ground := Go.Ground.textOnly Go.Departure.lateStores }, { on := 3, ground := Go.Ground.textOnly Go.Departure.lateStores }], guard := none }) rfl (fun K hK => ?_) AllReadyH.nil)
      go_simp
      refine hK.out _ _ ?_ (fun hHeld => ?_)
      · exact SH5.out
      clear hK K
      (try simp only [Act.put])
      refine wpAnyH_take (i := 6) (oi := { dst := some 48, op := Go.Op.fieldAddr 58 (Go.Operand.tmp 6) 9, type := 0, pos := "history.go:63", after := #[{ on := 0, ground := Go.Ground.phase }, { on := 1, ground := Go.Ground.phase }, { on := 2, ground := Go.Ground.phase }, { on := 3, ground := Go.Ground.phase }, { on := 4, ground := Go.Ground.phase }, { on := 5, ground := Go.Ground.phase }], guard := none }) (v := .pointer (some ⟨B6, 9, none⟩)) rfl (by kernel_rfl) (by kernel_rfl) (by kernel_rfl) (fun _ _ _ h => h) (Or.inl ⟨by rfl, ?_⟩) (by assumption) ?_
      · intro w9 hSw
        (try dsimp only at hSw)
        go_simp
      (try simp only [Act.put, List.setIfInBounds_toArray, List.set_cons_zero, List.set_cons_succ])
      refine wpAnyH_ready (rs := [7]) (by kernel_rfl) (by simp) ?_
      refine (AllReadyH.cons (o := { dst := none, op := Go.Op.store 37 (Go.Operand.tmp 48) (Go.Operand.tmp 46), type := 0, pos := "history.go:63", after := #[{ on := 6, ground := Go.Ground.data }, { on := 3, ground := Go.Ground.data }, { on := 5, ground := Go.Ground.chain }, { on := 0, ground := Go.Ground.phase }, { on := 1, ground := Go.Ground.phase }, { on := 2, ground := Go.Ground.phase }, { on := 3, ground := Go.Ground.phase }, { on := 4, ground := Go.Ground.phase }, { on := 5, ground := Go.Ground.phase }], guard := none }) rfl (fun K hK => ?_) AllReadyH.nil)
      go_simp
      refine hK.out _ _ ?_ (fun hHeld => ?_)
      · exact SH7.out
      clear hK K
      (try simp only [Act.put])
      refine wpAnyH_done (by kernel_rfl) ?_ _
      obtain ⟨W8, hW8⟩ : ∃ W8, W8 = (((W7.setCell ⟨B6, 5, none⟩ (.int .i64 x.st)).setCell ⟨B6, 9, none⟩ (.int .i64 x.tx)).setCell ⟨B6, 10, none⟩ (.int .i64 x.ty)).drew := ⟨_, rfl⟩
      have F8' : CO w W8 B4 B6 (⟨e.client, e.op, e.put, e.key, p9, e.vn, c9, x.st, (p : Int), -1, e.put, x.tx, x.ty, e.val⟩ : Ca) := by
        rw [hW8]
        have q1 := F7.out.set (c' := (⟨e.client, e.op, e.put, e.key, p9, e.vn, c9, x.st, (p : Int), -1, e.put, 0, 0, e.val⟩ : Ca)) 5 (.int .i64 x.st) rfl ⟨rfl, rfl, rfl, rfl⟩
        have q2 := q1.set (c' := (⟨e.client, e.op, e.put, e.key, p9, e.vn, c9, x.st, (p : Int), -1, e.put, x.tx, 0, e.val⟩ : Ca)) 9 (.int .i64 x.tx) rfl ⟨rfl, rfl, rfl, rfl⟩
        have q3 := q2.set (c' := (⟨e.client, e.op, e.put, e.key, p9, e.vn, c9, x.st, (p : Int), -1, e.put, x.tx, x.ty, e.val⟩ : Ca)) 10 (.int .i64 x.ty) rfl ⟨rfl, rfl, rfl, rfl⟩
        exact q3.k0 (Kept.refl _ _).drew
      obtain ⟨pu, hpu⟩ : ∃ pu, e.put = pu := ⟨_, rfl⟩
      have F8 : Hid (CO w W8 B4 B6 (⟨e.client, e.op, pu, e.key, p9, e.vn, c9, x.st, (p : Int), -1, pu, x.tx, x.ty, e.val⟩ : Ca)) := by rw [← hpu]; exact F8'
      have CP : Hid (callP es PL = some (endC ⟨e.client, e.op, pu, e.key, e.val, 0, (p : Int), -1, pu, 0, 0⟩ x q)) := by rw [PL2.out, ← hpu]; rfl
      have K78 : Hid (Kept (fun j => j = B6) W7 W8) := by
        rw [hW8]
        exact ((((Kept.refl (fun j => j = B6) W7).setCell (p := ⟨B6, 5, none⟩) (fun _ => rfl) _).setCell (p := ⟨B6, 9, none⟩) (fun _ => rfl) _).setCell (p := ⟨B6, 10, none⟩) (fun _ => rfl) _).drew
      have X8 : Hid (W8.heap[B8]? = some (.cells #[.int .i64 x.kind, .int .i64 x.client, .int .i64 x.op, .bool x.put, .string x.key, .slice x.va x.vn x.vc, .int .i64 x.st, .int .i64 x.tx, .int .i64 x.ty] 39 (0, 0))) := K78.out.get B8c.out NB.out
      have RX8 : Hid (Reads W8 x.va x.vn x.vc x.val) := Reads.kept0 K78.out (RX.out W7 K67.out) (fun h0 a ha z => by
        have q1 := reads_lt (er.rd x (List.mem_of_getElem? hx)) h0 a ha
        have q2 := F7.out.ne.2.1
        have z : a.block = B6 := z
        omega)
      rw [← hW8]
      clear hW8 F8' K78 G5 G9 G10 f5 f9 f10 s0 s1 s2 SH5 SH7 KA KB hHeld
      have X0 := cell_blk X8.out 0 (v := .int .i64 x.kind) rfl
      have X5 := cell_blk X8.out 5 (v := .slice x.va x.vn x.vc) rfl
      have X6 := cell_blk X8.out 6 (v := .int .i64 x.st) rfl
      by_cases k3 : x.kind = 3
      · have q3 : (x.kind == 3) = true := by simp [k3]
        have k3h : Hid (x.kind = 3) := k3
        clear k3
        have g5 := cell_blk F8.out.b6 5 (v := .int .i64 x.st) rfl
        have f5 := soft_blk F8.out.b6 5
        go_upto_region 14 with fail
        obtain ⟨W9, hW9⟩ : ∃ W9, W9 = W8.setCell ⟨B6, 5, none⟩ (.int .i64 77) := ⟨_, rfl⟩
        have F9 : Hid (CO w W9 B4 B6 (⟨e.client, e.op, pu, e.key, p9, e.vn, c9, 77, (p : Int), -1, pu, x.tx, x.ty, e.val⟩ : Ca)) := by rw [hW9]; exact F8.out.set (c' := (⟨e.client, e.op, pu, e.key, p9, e.vn, c9, 77, (p : Int), -1, pu, x.tx, x.ty, e.val⟩ : Ca)) 5 (.int .i64 77) rfl ⟨rfl, rfl, rfl, rfl⟩
        rw [← hW9]
        clear hW9 g5 f5 X0 X5 X6
        have D := F9.out.done
        have FIN : Hid (some (⟨e.client, e.op, pu, e.key, p9, e.vn, c9, 77, (p : Int), -1, pu, x.tx, x.ty, e.val⟩ : Ca).cc = callP es PL ∧ (W9.setRow B4 (⟨e.client, e.op, pu, e.key, p9, e.vn, c9, 77, (p : Int), -1, pu, x.tx, x.ty, e.val⟩ : Ca).cs).ownsRow w.heap.size 5 1 (.slice p9 e.vn c9) e.vn (cellsOf e.val) ∧ Kept (fun _ => False) w (W9.setRow B4 (⟨e.client, e.op, pu, e.key, p9, e.vn, c9, 77, (p : Int), -1, pu, x.tx, x.ty, e.val⟩ : Ca).cs) ∧ (W9.setRow B4 (⟨e.client, e.op, pu, e.key, p9, e.vn, c9, 77, (p : Int), -1, pu, x.tx, x.ty, e.val⟩ : Ca).cs).heap[B4]? = some (.cells (⟨e.client, e.op, pu, e.key, p9, e.vn, c9, 77, (p : Int), -1, pu, x.tx, x.ty, e.val⟩ : Ca).cs 58 (0, 0))) := ⟨by rw [CP.out]; unfold endC; rw [if_pos k3h.out]; rfl, D.2.2, D.2.1, D.1⟩
        clear D
        have L0 := cell_blk F9.out.b6 0 (v := .int .i64 e.client) rfl
        have L1 := cell_blk F9.out.b6 1 (v := .int .i64 e.op) rfl
        have L2 := cell_blk F9.out.b6 2 (v := .bool pu) rfl
        have L3 := cell_blk F9.out.b6 3 (v := .string e.key) rfl
        have L4 := cell_blk F9.out.b6 4 (v := .slice p9 e.vn c9) rfl
        have L5 := cell_blk F9.out.b6 5 (v := .int .i64 77) rfl
        have L6 := cell_blk F9.out.b6 6 (v := .int .i64 (p : Int)) rfl
        have L7 := cell_blk F9.out.b6 7 (v := .int .i64 (-1)) rfl
        have L8 := cell_blk F9.out.b6 8 (v := .bool pu) rfl
        have L9 := cell_blk F9.out.b6 9 (v := .int .i64 x.tx) rfl
        have L10 := cell_blk F9.out.b6 10 (v := .int .i64 x.ty) rfl
        go_wp2_with (first | (refine wpList_store_row rfl 58 (.tmp 4) (.tmp 71) rfl B4 (⟨e.client, e.op, pu, e.key, p9, e.vn, c9, 77, (p : Int), -1, pu, x.tx, x.ty, e.val⟩ : Ca).cs rfl rfl 58 zeroK F9.out.b4 (by kernel_rfl) rfl (by simp [Value.oneCell', Ca.cs]) ?_) | fail)
        refine bodyPost_ret (results_cell_row rfl _ _ B4 58 (⟨e.client, e.op, pu, e.key, p9, e.vn, c9, 77, (p : Int), -1, pu, x.tx, x.ty, e.val⟩ : Ca).cs (0, 0) _ rfl FIN.out.2.2.2 Tryz.underlying58 rfl (by kernel_rfl)) rfl ?_
        exact RetCa.mk (⟨e.client, e.op, pu, e.key, p9, e.vn, c9, 77, (p : Int), -1, pu, x.tx, x.ty, e.val⟩ : Ca) rfl ⟨FIN.out.1, FIN.out.2.1, FIN.out.2.2.1⟩
      · have q3 : (x.kind == 3) = false := by simp [k3]
        have k3h : Hid (¬ x.kind = 3) := k3
        clear k3
        have g2 : W8.cell? ⟨B6, 2, none⟩ = some (.bool pu) := cell_blk F8.out.b6 2 rfl
        clear hpu
        cases pu
        · have C44 : Hid (Calls Tryz.prog 40 #[.slice x.va x.vn x.vc] W8 (RetL (fun r c' w' => Cl5 W8 x.val r x.vn c' w') x.vn)) := hClone RX8.out (hv x (List.mem_of_getElem? hx))
          go_wp2_with fail
          refine C44.out.mono ?_
          rintro o wa ⟨pa, cz, rfl, cla⟩
          have Fa : Hid (CO w wa B4 B6 (⟨e.client, e.op, false, e.key, p9, e.vn, c9, x.st, (p : Int), -1, false, x.tx, x.ty, e.val⟩ : Ca)) := F8.out.k0 cla.kept
          have Ra : Hid (wa.ownsRow w.heap.size 5 1 (.slice pa x.vn cz) x.vn (cellsOf x.val)) := owns_mono cla.row F8.out.kept.size
          have g7 := cell_blk Fa.out.b6 7 (v := .int .i64 (-1)) rfl
          have g4 := cell_blk Fa.out.b6 4 (v := .slice p9 e.vn c9) rfl
          have f7 := soft_blk Fa.out.b6 7
          have f4 := soft_blk Fa.out.b6 4
          clear C44 cla X0 X5 X6 g2
          go_upto_region 14 with fail
          obtain ⟨W9, hW9⟩ : ∃ W9, W9 = (wa.setCell ⟨B6, 7, none⟩ (.int .i64 (q : Int))).setCell ⟨B6, 4, none⟩ (.slice pa x.vn cz) := ⟨_, rfl⟩
          have F9 : Hid (CO w W9 B4 B6 (⟨e.client, e.op, false, e.key, pa, x.vn, cz, x.st, (p : Int), (q : Int), false, x.tx, x.ty, x.val⟩ : Ca)) := by
            rw [hW9]
            exact (Fa.out.set (c' := (⟨e.client, e.op, false, e.key, p9, e.vn, c9, x.st, (p : Int), (q : Int), false, x.tx, x.ty, e.val⟩ : Ca)) 7 (.int .i64 (q : Int)) rfl ⟨rfl, rfl, rfl, rfl⟩).val (Fa.out.off Ra.out 7 _)
          rw [← hW9]
          clear hW9 g7 g4 f7 f4
          have D := F9.out.done
          have FIN : Hid (some (⟨e.client, e.op, false, e.key, pa, x.vn, cz, x.st, (p : Int), (q : Int), false, x.tx, x.ty, x.val⟩ : Ca).cc = callP es PL ∧ (W9.setRow B4 (⟨e.client, e.op, false, e.key, pa, x.vn, cz, x.st, (p : Int), (q : Int), false, x.tx, x.ty, x.val⟩ : Ca).cs).ownsRow w.heap.size 5 1 (.slice pa x.vn cz) x.vn (cellsOf x.val) ∧ Kept (fun _ => False) w (W9.setRow B4 (⟨e.client, e.op, false, e.key, pa, x.vn, cz, x.st, (p : Int), (q : Int), false, x.tx, x.ty, x.val⟩ : Ca).cs) ∧ (W9.setRow B4 (⟨e.client, e.op, false, e.key, pa, x.vn, cz, x.st, (p : Int), (q : Int), false, x.tx, x.ty, x.val⟩ : Ca).cs).heap[B4]? = some (.cells (⟨e.client, e.op, false, e.key, pa, x.vn, cz, x.st, (p : Int), (q : Int), false, x.tx, x.ty, x.val⟩ : Ca).cs 58 (0, 0))) := ⟨by rw [CP.out]; unfold endC; rw [if_neg k3h.out, if_pos rfl]; rfl, D.2.2, D.2.1, D.1⟩
          clear D
          have L0 := cell_blk F9.out.b6 0 (v := .int .i64 e.client) rfl
          have L1 := cell_blk F9.out.b6 1 (v := .int .i64 e.op) rfl
          have L2 := cell_blk F9.out.b6 2 (v := .bool false) rfl
          have L3 := cell_blk F9.out.b6 3 (v := .string e.key) rfl
          have L4 := cell_blk F9.out.b6 4 (v := .slice pa x.vn cz) rfl
          have L5 := cell_blk F9.out.b6 5 (v := .int .i64 x.st) rfl
          have L6 := cell_blk F9.out.b6 6 (v := .int .i64 (p : Int)) rfl
          have L7 := cell_blk F9.out.b6 7 (v := .int .i64 (q : Int)) rfl
          have L8 := cell_blk F9.out.b6 8 (v := .bool false) rfl
          have L9 := cell_blk F9.out.b6 9 (v := .int .i64 x.tx) rfl
          have L10 := cell_blk F9.out.b6 10 (v := .int .i64 x.ty) rfl
          go_wp2_with (first | (refine wpList_store_row rfl 58 (.tmp 4) (.tmp 71) rfl B4 (⟨e.client, e.op, false, e.key, pa, x.vn, cz, x.st, (p : Int), (q : Int), false, x.tx, x.ty, x.val⟩ : Ca).cs rfl rfl 58 zeroK F9.out.b4 (by kernel_rfl) rfl (by simp [Value.oneCell', Ca.cs]) ?_) | fail)
          refine bodyPost_ret (results_cell_row rfl _ _ B4 58 (⟨e.client, e.op, false, e.key, pa, x.vn, cz, x.st, (p : Int), (q : Int), false, x.tx, x.ty, x.val⟩ : Ca).cs (0, 0) _ rfl FIN.out.2.2.2 Tryz.underlying58 rfl (by kernel_rfl)) rfl ?_
          exact RetCa.mk (⟨e.client, e.op, false, e.key, pa, x.vn, cz, x.st, (p : Int), (q : Int), false, x.tx, x.ty, x.val⟩ : Ca) rfl ⟨FIN.out.1, FIN.out.2.1, FIN.out.2.2.1⟩
        · by_cases s3 : x.st = 0
          · have q4 : (x.st == 0) = true := by simp [s3]
            have s3h : Hid (x.st = 0) := s3
            clear s3
            have g7 := cell_blk F8.out.b6 7 (v := .int .i64 (-1)) rfl
            have g8 := cell_blk F8.out.b6 8 (v := .bool true) rfl
            have f7 := soft_blk F8.out.b6 7
            have f8 := soft_blk F8.out.b6 8
            go_upto_region 14 with fail
            obtain ⟨W9, hW9⟩ : ∃ W9, W9 = (W8.setCell ⟨B6, 7, none⟩ (.int .i64 (q : Int))).setCell ⟨B6, 8, none⟩ (.bool false) := ⟨_, rfl⟩
            have F9 : Hid (CO w W9 B4 B6 (⟨e.client, e.op, true, e.key, p9, e.vn, c9, x.st, (p : Int), (q : Int), false, x.tx, x.ty, e.val⟩ : Ca)) := by
              rw [hW9]
              exact (F8.out.set (c' := (⟨e.client, e.op, true, e.key, p9, e.vn, c9, x.st, (p : Int), (q : Int), true, x.tx, x.ty, e.val⟩ : Ca)) 7 (.int .i64 (q : Int)) rfl ⟨rfl, rfl, rfl, rfl⟩).set (c' := (⟨e.client, e.op, true, e.key, p9, e.vn, c9, x.st, (p : Int), (q : Int), false, x.tx, x.ty, e.val⟩ : Ca)) 8 (.bool false) rfl ⟨rfl, rfl, rfl, rfl⟩
            rw [← hW9]
            clear hW9 g7 g8 f7 f8 X0 X5 X6 g2
            have D := F9.out.done
            have FIN : Hid (some (⟨e.client, e.op, true, e.key, p9, e.vn, c9, x.st, (p : Int), (q : Int), false, x.tx, x.ty, e.val⟩ : Ca).cc = callP es PL ∧ (W9.setRow B4 (⟨e.client, e.op, true, e.key, p9, e.vn, c9, x.st, (p : Int), (q : Int), false, x.tx, x.ty, e.val⟩ : Ca).cs).ownsRow w.heap.size 5 1 (.slice p9 e.vn c9) e.vn (cellsOf e.val) ∧ Kept (fun _ => False) w (W9.setRow B4 (⟨e.client, e.op, true, e.key, p9, e.vn, c9, x.st, (p : Int), (q : Int), false, x.tx, x.ty, e.val⟩ : Ca).cs) ∧ (W9.setRow B4 (⟨e.client, e.op, true, e.key, p9, e.vn, c9, x.st, (p : Int), (q : Int), false, x.tx, x.ty, e.val⟩ : Ca).cs).heap[B4]? = some (.cells (⟨e.client, e.op, true, e.key, p9, e.vn, c9, x.st, (p : Int), (q : Int), false, x.tx, x.ty, e.val⟩ : Ca).cs 58 (0, 0))) := ⟨by rw [CP.out]; unfold endC; rw [if_neg k3h.out, if_neg (by simp), if_pos s3h.out]; rfl, D.2.2, D.2.1, D.1⟩
            clear D
            have L0 := cell_blk F9.out.b6 0 (v := .int .i64 e.client) rfl
            have L1 := cell_blk F9.out.b6 1 (v := .int .i64 e.op) rfl
            have L2 := cell_blk F9.out.b6 2 (v := .bool true) rfl
            have L3 := cell_blk F9.out.b6 3 (v := .string e.key) rfl
            have L4 := cell_blk F9.out.b6 4 (v := .slice p9 e.vn c9) rfl
            have L5 := cell_blk F9.out.b6 5 (v := .int .i64 x.st) rfl
            have L6 := cell_blk F9.out.b6 6 (v := .int .i64 (p : Int)) rfl
            have L7 := cell_blk F9.out.b6 7 (v := .int .i64 (q : Int)) rfl
            have L8 := cell_blk F9.out.b6 8 (v := .bool false) rfl
            have L9 := cell_blk F9.out.b6 9 (v := .int .i64 x.tx) rfl
            have L10 := cell_blk F9.out.b6 10 (v := .int .i64 x.ty) rfl
            go_wp2_with (first | (refine wpList_store_row rfl 58 (.tmp 4) (.tmp 71) rfl B4 (⟨e.client, e.op, true, e.key, p9, e.vn, c9, x.st, (p : Int), (q : Int), false, x.tx, x.ty, e.val⟩ : Ca).cs rfl rfl 58 zeroK F9.out.b4 (by kernel_rfl) rfl (by simp [Value.oneCell', Ca.cs]) ?_) | fail)
            refine bodyPost_ret (results_cell_row rfl _ _ B4 58 (⟨e.client, e.op, true, e.key, p9, e.vn, c9, x.st, (p : Int), (q : Int), false, x.tx, x.ty, e.val⟩ : Ca).cs (0, 0) _ rfl FIN.out.2.2.2 Tryz.underlying58 rfl (by kernel_rfl)) rfl ?_
            exact RetCa.mk (⟨e.client, e.op, true, e.key, p9, e.vn, c9, x.st, (p : Int), (q : Int), false, x.tx, x.ty, e.val⟩ : Ca) rfl ⟨FIN.out.1, FIN.out.2.1, FIN.out.2.2.1⟩
          · have q4 : (x.st == 0) = false := by simp [s3]
            have s3h : Hid (¬ x.st = 0) := s3
            clear s3
            have D := F8.out.done
            have FIN : Hid (some (⟨e.client, e.op, true, e.key, p9, e.vn, c9, x.st, (p : Int), -1, true, x.tx, x.ty, e.val⟩ : Ca).cc = callP es PL ∧ (W8.setRow B4 (⟨e.client, e.op, true, e.key, p9, e.vn, c9, x.st, (p : Int), -1, true, x.tx, x.ty, e.val⟩ : Ca).cs).ownsRow w.heap.size 5 1 (.slice p9 e.vn c9) e.vn (cellsOf e.val) ∧ Kept (fun _ => False) w (W8.setRow B4 (⟨e.client, e.op, true, e.key, p9, e.vn, c9, x.st, (p : Int), -1, true, x.tx, x.ty, e.val⟩ : Ca).cs) ∧ (W8.setRow B4 (⟨e.client, e.op, true, e.key, p9, e.vn, c9, x.st, (p : Int), -1, true, x.tx, x.ty, e.val⟩ : Ca).cs).heap[B4]? = some (.cells (⟨e.client, e.op, true, e.key, p9, e.vn, c9, x.st, (p : Int), -1, true, x.tx, x.ty, e.val⟩ : Ca).cs 58 (0, 0))) := ⟨by rw [CP.out]; unfold endC; rw [if_neg k3h.out, if_neg (by simp), if_neg s3h.out]; rfl, D.2.2, D.2.1, D.1⟩
            clear D
            have L0 := cell_blk F8.out.b6 0 (v := .int .i64 e.client) rfl
            have L1 := cell_blk F8.out.b6 1 (v := .int .i64 e.op) rfl
            have L2 := cell_blk F8.out.b6 2 (v := .bool true) rfl
            have L3 := cell_blk F8.out.b6 3 (v := .string e.key) rfl
            have L4 := cell_blk F8.out.b6 4 (v := .slice p9 e.vn c9) rfl
            have L5 := cell_blk F8.out.b6 5 (v := .int .i64 x.st) rfl
            have L6 := cell_blk F8.out.b6 6 (v := .int .i64 (p : Int)) rfl
            have L7 := cell_blk F8.out.b6 7 (v := .int .i64 (-1)) rfl
            have L8 := cell_blk F8.out.b6 8 (v := .bool true) rfl
            have L9 := cell_blk F8.out.b6 9 (v := .int .i64 x.tx) rfl
            have L10 := cell_blk F8.out.b6 10 (v := .int .i64 x.ty) rfl
            go_wp2_with (first | (refine wpList_store_row rfl 58 (.tmp 4) (.tmp 71) rfl B4 (⟨e.client, e.op, true, e.key, p9, e.vn, c9, x.st, (p : Int), -1, true, x.tx, x.ty, e.val⟩ : Ca).cs rfl rfl 58 zeroK F8.out.b4 (by kernel_rfl) rfl (by simp [Value.oneCell', Ca.cs]) ?_) | fail)
            refine bodyPost_ret (results_cell_row rfl _ _ B4 58 (⟨e.client, e.op, true, e.key, p9, e.vn, c9, x.st, (p : Int), -1, true, x.tx, x.ty, e.val⟩ : Ca).cs (0, 0) _ rfl FIN.out.2.2.2 Tryz.underlying58 rfl (by kernel_rfl)) rfl ?_
            exact RetCa.mk (⟨e.client, e.op, true, e.key, p9, e.vn, c9, x.st, (p : Int), -1, true, x.tx, x.ty, e.val⟩ : Ca) rfl ⟨FIN.out.1, FIN.out.2.1, FIN.out.2.2.1⟩
  · go_simp
    refine hK.out _ _ ?_ (fun hHeld => ?_)
    · exact CB.out _ KZ
    clear hK K
    (try simp only [Act.put, List.setIfInBounds_toArray, List.set_cons_zero, List.set_cons_succ])
    refine wpAnyH_ready (rs := [10]) (by kernel_rfl) (by simp) ?_
    refine (AllReadyH.cons (o := { dst := some 25, op := Go.Op.call { callee := Go.Callee.value (Go.Operand.func 40), args := #[Go.Operand.tmp 24], argTypes := #[34] }, type := 34, pos := "history.go:57", after := #[{ on := 9, ground := Go.Ground.data }], guard := none }) rfl (fun K hK => ?_) AllReadyH.nil)
    go_simp
    refine (CC.out _ (KZ)).mono ?_
    rintro o w3 ⟨p9, c9, rfl, cl9⟩
    refine hK.out _ _ ?_ (fun hHeld => ?_)
    · exact CB.out _ (KZ.trans cl9.kept (fun _ _ z => z))
    clear hK K
    (try simp only [Act.put, List.setIfInBounds_toArray, List.set_cons_zero, List.set_cons_succ])
    refine wpAnyH_take (i := 16) (oi := { dst := some 31, op := Go.Op.build 58 #[(0, Go.Operand.tmp 16), (1, Go.Operand.tmp 18), (2, Go.Operand.tmp 20), (3, Go.Operand.tmp 22), (4, Go.Operand.tmp 25), (6, Go.Operand.tmp 28), (7, Go.Operand.const (Go.Value.int Go.IntKind.i64 (-1))), (8, Go.Operand.tmp 30)], type := 58, pos := "history.go:57", after := #[{ on := 1, ground := Go.Ground.data }, { on := 3, ground := Go.Ground.data }, { on := 5, ground := Go.Ground.data }, { on := 7, ground := Go.Ground.data }, { on := 10, ground := Go.Ground.data }, { on := 13, ground := Go.Ground.data }, { on := 15, ground := Go.Ground.data }], guard := none }) (v := .agg #[.int .i64 e.client, .int .i64 e.op, .bool e.put, .string e.key, .slice p9 e.vn c9, .int .i64 0, .int .i64 (p : Int), .int .i64 (-1), .bool e.put, .int .i64 0, .int .i64 0]) rfl (by kernel_rfl) (by kernel_rfl) (by kernel_rfl) (fun _ _ _ h => h) (Or.inl ⟨by rfl, ?_⟩) (by assumption) ?_
    · intro w9 hSw
      (try dsimp only at hSw)
      go_simp
    (try simp only [Act.put, List.setIfInBounds_toArray, List.set_cons_zero, List.set_cons_succ])
    have HZ : w3.heap[W2.heap.size]? = some (.cells zeroK 58 (0, 0)) := cl9.kept.get (alloc_new W2 _) (fun z => z)
    have KS : Kept (fun _ => False) W2.drew (w3.setRow W2.heap.size #[.int .i64 e.client, .int .i64 e.op, .bool e.put, .string e.key, .slice p9 e.vn c9, .int .i64 0, .int .i64 (p : Int), .int .i64 (-1), .bool e.put, .int .i64 0, .int .i64 0]) := kept_row (KZ.trans cl9.kept (fun _ _ z => z)) _ (fun z => absurd z (Nat.lt_irrefl _))
    refine wpAnyH_ready (rs := [18]) (by kernel_rfl) (by simp) ?_
    refine (AllReadyH.cons (o := { dst := none, op := Go.Op.store 58 (Go.Operand.tmp 6) (Go.Operand.tmp 31), type := 0, pos := "history.go:57", after := #[{ on := 17, ground := Go.Ground.data }, { on := 16, ground := Go.Ground.data }, { on := 10, ground := Go.Ground.chain }, { on := 0, ground := Go.Ground.phase }, { on := 1, ground := Go.Ground.phase }, { on := 2, ground := Go.Ground.phase }, { on := 3, ground := Go.Ground.phase }, { on := 4, ground := Go.Ground.phase }, { on := 5, ground := Go.Ground.phase }, { on := 6, ground := Go.Ground.phase }, { on := 7, ground := Go.Ground.phase }, { on := 8, ground := Go.Ground.phase }, { on := 9, ground := Go.Ground.phase }, { on := 10, ground := Go.Ground.phase }, { on := 11, ground := Go.Ground.phase }, { on := 12, ground := Go.Ground.phase }, { on := 13, ground := Go.Ground.phase }, { on := 14, ground := Go.Ground.phase }, { on := 15, ground := Go.Ground.phase }, { on := 16, ground := Go.Ground.phase }, { on := 17, ground := Go.Ground.phase }], guard := none }) rfl (fun K hK => ?_) AllReadyH.nil)
    rw [if_pos (by simp [Region.wanted])]
    refine wp_store_row 58 (.tmp 6) (.tmp 31) rfl W2.heap.size #[.int .i64 e.client, .int .i64 e.op, .bool e.put, .string e.key, .slice p9 e.vn c9, .int .i64 0, .int .i64 (p : Int), .int .i64 (-1), .bool e.put, .int .i64 0, .int .i64 0] rfl rfl 58 zeroK HZ (by kernel_rfl) rfl (by simp [Value.oneCell']) ?_
    refine hK.out _ _ ?_ (fun hHeld => ?_)
    · exact CB.out _ KS
    clear hK K
    (try simp only [Act.put])
    refine wpAnyH_done (by kernel_rfl) ?_ _
    obtain ⟨W6, hW6⟩ : ∃ W6, W6 = w3.setRow W2.heap.size #[.int .i64 e.client, .int .i64 e.op, .bool e.put, .string e.key, .slice p9 e.vn c9, .int .i64 0, .int .i64 (p : Int), .int .i64 (-1), .bool e.put, .int .i64 0, .int .i64 0] := ⟨_, rfl⟩
    obtain ⟨B6, hB6⟩ : ∃ B6, B6 = W2.heap.size := ⟨_, rfl⟩
    have F6 : Hid (CO w W6 B4 B6 ⟨e.client, e.op, e.put, e.key, p9, e.vn, c9, 0, (p : Int), -1, e.put, 0, 0, e.val⟩) := by
      have k2s := K2.out.size
      have k1s := K1.out.size
      have l1 : B4 < W1.heap.size := by rw [E1.out.1, alloc_size]; have := E1.out.2; omega
      have KW : Kept (fun _ => False) W2 W6 := by
        rw [hW6]
        exact ⟨KS.os, KS.tape, KS.output, KS.size, KS.block⟩
      have k3 : Kept (fun _ => False) W1 W6 := K2.out.trans KW (fun _ _ z => z)
      refine ⟨by rw [hW6, hB6]; exact setRow_heap w3 _ _ _ 58 (0, 0) HZ, k3.get (by rw [E1.out.1, E1.out.2]; exact alloc_new _ _) (fun z => z), K1.out.trans k3 (fun _ _ z => z), ?_, ?_, ?_, ?_⟩
      · have o3 := owns_mono cl9.row (show w.heap.size ≤ _ from Nat.le_trans K1.out.size (Nat.le_trans K2.out.size KZ.size))
        rw [hW6]
        refine (kept_row (Kept.refl (fun j => j = W2.heap.size) w3) _ (fun _ => rfl)).owns o3 (fun j z y => ?_)
        rw [blockOf_own] at z
        obtain ⟨cs, q⟩ := own_type o3 j z
        have y : j = W2.heap.size := y
        rw [y, HZ] at q
        simp at q
      · omega
      · omega
      · have := E1.out.2
        omega
    rw [← hW6, ← hB6]
    clear hW6 hB6 hHeld cl9 KS HZ
    by_cases hk1 : kq = 1
    · have q1 : ((kq : Int) == 1) = true := by simp; omega
      have PL1 : Hid (callP es PL = some (beginC e p)) := by
        have : PL = [p] := by
          match PL, kl, h0 with
          | [x], _, h0 => simpa using h0
          | x :: y :: z, kl, _ => simp at kl; omega
        rw [this]
        show (es[p]?).map _ = _
        rw [he]
        rfl
      have D := F6.out.done
      have FIN : Hid (some (Ca.cc (⟨e.client, e.op, e.put, e.key, p9, e.vn, c9, 0, (p : Int), -1, e.put, 0, 0, e.val⟩)) = callP es PL ∧ (W6.setRow B4 (Ca.cs (⟨e.client, e.op, e.put, e.key, p9, e.vn, c9, 0, (p : Int), -1, e.put, 0, 0, e.val⟩))).ownsRow w.heap.size 5 1 (.slice p9 e.vn c9) e.vn (cellsOf e.val) ∧ Kept (fun _ => False) w (W6.setRow B4 (Ca.cs (⟨e.client, e.op, e.put, e.key, p9, e.vn, c9, 0, (p : Int), -1, e.put, 0, 0, e.val⟩))) ∧ (W6.setRow B4 (Ca.cs (⟨e.client, e.op, e.put, e.key, p9, e.vn, c9, 0, (p : Int), -1, e.put, 0, 0, e.val⟩))).heap[B4]? = some (.cells (Ca.cs (⟨e.client, e.op, e.put, e.key, p9, e.vn, c9, 0, (p : Int), -1, e.put, 0, 0, e.val⟩)) 58 (0, 0))) := ⟨by rw [PL1.out]; rfl, D.2.2, D.2.1, D.1⟩
      have L0 := cell_blk F6.out.b6 0 (v := .int .i64 e.client) rfl
      have L1 := cell_blk F6.out.b6 1 (v := .int .i64 e.op) rfl
      have L2 := cell_blk F6.out.b6 2 (v := .bool e.put) rfl
      have L3 := cell_blk F6.out.b6 3 (v := .string e.key) rfl
      have L4 := cell_blk F6.out.b6 4 (v := .slice p9 e.vn c9) rfl
      have L5 := cell_blk F6.out.b6 5 (v := .int .i64 0) rfl
      have L6 := cell_blk F6.out.b6 6 (v := .int .i64 (p : Int)) rfl
      have L7 := cell_blk F6.out.b6 7 (v := .int .i64 (-1)) rfl
      have L8 := cell_blk F6.out.b6 8 (v := .bool e.put) rfl
      have L9 := cell_blk F6.out.b6 9 (v := .int .i64 0) rfl
      have L10 := cell_blk F6.out.b6 10 (v := .int .i64 0) rfl
      clear D
      go_wp2_with (first | (refine wpList_store_row rfl 58 (.tmp 4) (.tmp 35) rfl B4 (Ca.cs (⟨e.client, e.op, e.put, e.key, p9, e.vn, c9, 0, (p : Int), -1, e.put, 0, 0, e.val⟩)) rfl rfl 58 zeroK F6.out.b4 (by kernel_rfl) rfl (by simp [Value.oneCell', Ca.cs]) ?_) | fail)
      refine bodyPost_ret (results_cell_row rfl _ _ B4 58 (Ca.cs (⟨e.client, e.op, e.put, e.key, p9, e.vn, c9, 0, (p : Int), -1, e.put, 0, 0, e.val⟩)) (0, 0) _ rfl FIN.out.2.2.2 Tryz.underlying58 rfl (by kernel_rfl)) rfl ?_
      exact RetCa.mk (⟨e.client, e.op, e.put, e.key, p9, e.vn, c9, 0, (p : Int), -1, e.put, 0, 0, e.val⟩) rfl ⟨FIN.out.1, FIN.out.2.1, FIN.out.2.2.1⟩
    · have k2 : 1 < kq := by omega
      have k3 : (1 : Int) < (kq : Int) := by omega
      have q1 : ((kq : Int) == 1) = false := by simp; omega
      obtain ⟨q, hq⟩ : ∃ q, PL[1]? = some q := ⟨_, List.getElem?_eq_getElem (by omega)⟩
      have qn : q < n := hp q (List.mem_of_getElem? hq)
      have qn1 : (q : Int) < (n : Int) := by omega
      have cq1 : W6.cell? ⟨gq, 1, none⟩ = some (.int .i64 (q : Int)) := F6.out.kept.cell (ow.cells (g := gq) rfl 1 (.int .i64 (q : Int)) (by
        unfold intsN
        rw [List.getElem?_map, hq]
        rfl)) (fun z => z)
      obtain ⟨b2, off2, x, e2, hx, y0, y1, y2, y3, y4, y5, y6, y7, y8, rd2⟩ := (er.k0 F6.out.kept).at qn
      have e2 : b = b2 ∧ off = off2 := by simpa using e2
      obtain ⟨rfl, rfl⟩ := e2
      have PL2 : Hid (callP es PL = some (endC (beginC e p) x q)) := by
        have : ∃ r, PL = p :: q :: r := by
          match PL, h0, hq with
          | a :: c :: r, h0, hq =>
            have e1 : a = p := by simpa using h0
            have e2 : c = q := by simpa using hq
            exact ⟨r, by rw [e1, e2]⟩
        obtain ⟨r, hr⟩ := this
        rw [hr]
        show (match es[p]?, es[q]? with | some b, some x => some (endC (beginC b p) x q) | _, _ => none) = _
        rw [he, hx]
      obtain ⟨W7, hW7⟩ : ∃ W7, W7 = W6.alloc (.cells #[.int .i64 x.kind, .int .i64 x.client, .int .i64 x.op, .bool x.put, .string x.key, .slice x.va x.vn x.vc, .int .i64 x.st, .int .i64 x.tx, .int .i64 x.ty] 39) := ⟨_, rfl⟩
      obtain ⟨B8, hB8⟩ : ∃ B8, B8 = W6.heap.size := ⟨_, rfl⟩
      have K67 : Hid (Kept (fun _ => False) W6 W7) := by rw [hW7]; exact (Kept.refl _ _).alloc _
      have F7 : Hid (CO w W7 B4 B6 (⟨e.client, e.op, e.put, e.key, p9, e.vn, c9, 0, (p : Int), -1, e.put, 0, 0, e.val⟩)) := F6.out.k0 K67.out
      have B8c : Hid (W7.heap[B8]? = some (.cells #[.int .i64 x.kind, .int .i64 x.client, .int .i64 x.op, .bool x.put, .string x.key, .slice x.va x.vn x.vc, .int .i64 x.st, .int .i64 x.tx, .int .i64 x.ty] 39 (0, 0))) := by rw [hW7, hB8]; exact alloc_new _ _
      have NB : Hid (B8 ≠ B6) := fun z => by
        have := block_lt F6.out.b6
        omega
      have RX : Hid (∀ V, Kept (fun _ => False) W6 V → Reads V x.va x.vn x.vc x.val) := fun V kv => Reads.kept kv rd2 (fun _ _ z => z)
      have E7 : Hid (W7 = W6.alloc (.cells #[.int .i64 x.kind, .int .i64 x.client, .int .i64 x.op, .bool x.put, .string x.key, .slice x.va x.vn x.vc, .int .i64 x.st, .int .i64 x.tx, .int .i64 x.ty] 39) ∧ B8 = W6.heap.size) := ⟨hW7, hB8⟩
      clear hW7 hB8 rd2
      go_upto_region 7 with fail
      rw [← E7.out.1, ← E7.out.2]
      clear E7 y0 y1 y2 y3 y4 y5 y6 y7 y8 cq1
      have G5 := cell_blk F7.out.b6 5 (v := .int .i64 0) rfl
      have G9 := cell_blk F7.out.b6 9 (v := .int .i64 0) rfl
      have G10 := cell_blk F7.out.b6 10 (v := .int .i64 0) rfl
      have f5 := soft_blk F7.out.b6 5
      have f9 := soft_blk F7.out.b6 9
      have f10 := soft_blk F7.out.b6 10
      have s0 := cell_blk B8c.out 6 (v := .int .i64 x.st) rfl
      have s1 := cell_blk B8c.out 7 (v := .int .i64 x.tx) rfl
      have s2 := cell_blk B8c.out 8 (v := .int .i64 x.ty) rfl
      have NB2 := NB.out
      have KA : Hid (Kept (fun j => j = B6) W7 (W7.setCell ⟨B6, 5, none⟩ (.int .i64 x.st)).drew) := ((Kept.refl (fun j => j = B6) W7).setCell (p := ⟨B6, 5, none⟩) (fun _ => rfl) _).drew
      have SH5 : Hid ((W7.setCell ⟨B6, 5, none⟩ (.int .i64 x.st)).drew.cell? ⟨B8, 6, none⟩ = some (.int .i64 x.st) ∧ (W7.setCell ⟨B6, 5, none⟩ (.int .i64 x.st)).drew.cell? ⟨B8, 7, none⟩ = some (.int .i64 x.tx) ∧ (W7.setCell ⟨B6, 5, none⟩ (.int .i64 x.st)).drew.cell? ⟨B8, 8, none⟩ = some (.int .i64 x.ty)) := ⟨KA.out.cell s0 NB.out, KA.out.cell s1 NB.out, KA.out.cell s2 NB.out⟩
      have KB : Hid (Kept (fun j => j = B6) W7 (((W7.setCell ⟨B6, 5, none⟩ (.int .i64 x.st)).setCell ⟨B6, 9, none⟩ (.int .i64 x.tx)).setCell ⟨B6, 10, none⟩ (.int .i64 x.ty)).drew) := ((((Kept.refl (fun j => j = B6) W7).setCell (p := ⟨B6, 5, none⟩) (fun _ => rfl) _).setCell (p := ⟨B6, 9, none⟩) (fun _ => rfl) _).setCell (p := ⟨B6, 10, none⟩) (fun _ => rfl) _).drew
      have SH7 : Hid ((((W7.setCell ⟨B6, 5, none⟩ (.int .i64 x.st)).setCell ⟨B6, 9, none⟩ (.int .i64 x.tx)).setCell ⟨B6, 10, none⟩ (.int .i64 x.ty)).drew.cell? ⟨B8, 6, none⟩ = some (.int .i64 x.st) ∧ (((W7.setCell ⟨B6, 5, none⟩ (.int .i64 x.st)).setCell ⟨B6, 9, none⟩ (.int .i64 x.tx)).setCell ⟨B6, 10, none⟩ (.int .i64 x.ty)).drew.cell? ⟨B8, 7, none⟩ = some (.int .i64 x.tx) ∧ (((W7.setCell ⟨B6, 5, none⟩ (.int .i64 x.st)).setCell ⟨B6, 9, none⟩ (.int .i64 x.tx)).setCell ⟨B6, 10, none⟩ (.int .i64 x.ty)).drew.cell? ⟨B8, 8, none⟩ = some (.int .i64 x.ty)) := ⟨KB.out.cell s0 NB.out, KB.out.cell s1 NB.out, KB.out.cell s2 NB.out⟩
      refine wp_region_held_drew (S := (fun V => V.cell? ⟨B8, 6, none⟩ = some (.int .i64 x.st) ∧ V.cell? ⟨B8, 7, none⟩ = some (.int .i64 x.tx) ∧ V.cell? ⟨B8, 8, none⟩ = some (.int .i64 x.ty))) (by kernel_rfl) ?_ (fun hHeld => ?_)
      · exact ⟨s0, s1, s2⟩
      refine wpAnyH_take (i := 0) (oi := { dst := some 43, op := Go.Op.fieldAddr 39 (Go.Operand.tmp 8) 6, type := 0, pos := "history.go:63", after := #[], guard := none }) (v := .pointer (some ⟨B8, 6, none⟩)) rfl (by kernel_rfl) (by kernel_rfl) (by kernel_rfl) (fun _ _ _ h => h) (Or.inl ⟨by rfl, ?_⟩) (by assumption) ?_
      · intro w9 hSw
        (try dsimp only at hSw)
        go_simp
      (try simp only [Act.put, List.setIfInBounds_toArray, List.set_cons_zero, List.set_cons_succ])
      refine wpAnyH_take (i := 1) (oi := { dst := some 44, op := Go.Op.load 35 (Go.Operand.tmp 43), type := 35, pos := "history.go:63", after := #[{ on := 0, ground := Go.Ground.data }], guard := none }) (v := .int .i64 x.st) rfl (by kernel_rfl) (by kernel_rfl) (by kernel_rfl) (fun _ _ _ h => h) (Or.inl ⟨by rfl, ?_⟩) (by assumption) ?_
      · intro w9 hSw
        (try dsimp only at hSw)
        go_simp
      (try simp only [Act.put, List.setIfInBounds_toArray, List.set_cons_zero, List.set_cons_succ])
      refine wpAnyH_take (i := 2) (oi := { dst := some 45, op := Go.Op.fieldAddr 39 (Go.Operand.tmp 8) 7, type := 0, pos := "history.go:63", after := #[{ on := 5, ground := Go.Ground.gcOnly Go.Departure.lateStores }], guard := none }) (v := .pointer (some ⟨B8, 7, none⟩)) rfl (by kernel_rfl) (by kernel_rfl) (by kernel_rfl) (fun _ _ _ h => h) (Or.inl ⟨by rfl, ?_⟩) (by assumption) ?_
      · intro w9 hSw
        (try dsimp only at hSw)
        go_simp
      (try simp only [Act.put, List.setIfInBounds_toArray, List.set_cons_zero, List.set_cons_succ])
      refine wpAnyH_take (i := 3) (oi := { dst := some 46, op := Go.Op.load 37 (Go.Operand.tmp 45), type := 37, pos := "history.go:63", after := #[{ on := 2, ground := Go.Ground.data }, { on := 5, ground := Go.Ground.gcOnly Go.Departure.lateStores }], guard := none }) (v := .agg #[.int .i64 x.tx, .int .i64 x.ty]) rfl (by kernel_rfl) (by kernel_rfl) (by kernel_rfl) (fun _ _ _ h => h) (Or.inl ⟨by rfl, ?_⟩) (by assumption) ?_
      · intro w9 hSw
        (try dsimp only at hSw)
        go_simp
      (try simp only [Act.put, List.setIfInBounds_toArray, List.set_cons_zero, List.set_cons_succ])
      refine wpAnyH_take (i := 4) (oi := { dst := some 47, op := Go.Op.fieldAddr 58 (Go.Operand.tmp 6) 5, type := 0, pos := "history.go:63", after := #[{ on := 0, ground := Go.Ground.phase }, { on := 1, ground := Go.Ground.phase }, { on := 2, ground := Go.Ground.textOnly Go.Departure.lateStores }, { on := 3, ground := Go.Ground.textOnly Go.Departure.lateStores }], guard := none }) (v := .pointer (some ⟨B6, 5, none⟩)) rfl (by kernel_rfl) (by kernel_rfl) (by kernel_rfl) (fun _ _ _ h => h) (Or.inl ⟨by rfl, ?_⟩) (by assumption) ?_
      · intro w9 hSw
        (try dsimp only at hSw)
        go_simp
      (try simp only [Act.put, List.setIfInBounds_toArray, List.set_cons_zero, List.set_cons_succ])
      refine wpAnyH_ready (rs := [5]) (by kernel_rfl) (by simp) ?_
      refine (AllReadyH.cons (o := { dst := none, op := Go.Op.store 35 (Go.Operand.tmp 47) (Go.Operand.tmp 44), type := 0, pos := "history.go:63", after := #[{ on := 4, ground := Go.Ground.data }, { on := 1, ground := Go.Ground.data }, { on := 0, ground := Go.Ground.phase }, { on := 1, ground := Go.Ground.phase }, { on := 2, ground := Go.Ground.textOnly Go.Departure.lateStores }, { on := 3, ground := Go.Ground.textOnly Go.Departure.lateStores }], guard := none }) rfl (fun K hK => ?_) AllReadyH.nil)
      go_simp
      refine hK.out _ _ ?_ (fun hHeld => ?_)
      · exact SH5.out
      clear hK K
      (try simp only [Act.put])
      refine wpAnyH_take (i := 6) (oi := { dst := some 48, op := Go.Op.fieldAddr 58 (Go.Operand.tmp 6) 9, type := 0, pos := "history.go:63", after := #[{ on := 0, ground := Go.Ground.phase }, { on := 1, ground := Go.Ground.phase }, { on := 2, ground := Go.Ground.phase }, { on := 3, ground := Go.Ground.phase }, { on := 4, ground := Go.Ground.phase }, { on := 5, ground := Go.Ground.phase }], guard := none }) (v := .pointer (some ⟨B6, 9, none⟩)) rfl (by kernel_rfl) (by kernel_rfl) (by kernel_rfl) (fun _ _ _ h => h) (Or.inl ⟨by rfl, ?_⟩) (by assumption) ?_
      · intro w9 hSw
        (try dsimp only at hSw)
        go_simp
      (try simp only [Act.put, List.setIfInBounds_toArray, List.set_cons_zero, List.set_cons_succ])
      refine wpAnyH_ready (rs := [7]) (by kernel_rfl) (by simp) ?_
      refine (AllReadyH.cons (o := { dst := none, op := Go.Op.store 37 (Go.Operand.tmp 48) (Go.Operand.tmp 46), type := 0, pos := "history.go:63", after := #[{ on := 6, ground := Go.Ground.data }, { on := 3, ground := Go.Ground.data }, { on := 5, ground := Go.Ground.chain }, { on := 0, ground := Go.Ground.phase }, { on := 1, ground := Go.Ground.phase }, { on := 2, ground := Go.Ground.phase }, { on := 3, ground := Go.Ground.phase }, { on := 4, ground := Go.Ground.phase }, { on := 5, ground := Go.Ground.phase }], guard := none }) rfl (fun K hK => ?_) AllReadyH.nil)
      go_simp
      refine hK.out _ _ ?_ (fun hHeld => ?_)
      · exact SH7.out
      clear hK K
      (try simp only [Act.put])
      refine wpAnyH_done (by kernel_rfl) ?_ _
      obtain ⟨W8, hW8⟩ : ∃ W8, W8 = (((W7.setCell ⟨B6, 5, none⟩ (.int .i64 x.st)).setCell ⟨B6, 9, none⟩ (.int .i64 x.tx)).setCell ⟨B6, 10, none⟩ (.int .i64 x.ty)).drew := ⟨_, rfl⟩
      have F8' : CO w W8 B4 B6 (⟨e.client, e.op, e.put, e.key, p9, e.vn, c9, x.st, (p : Int), -1, e.put, x.tx, x.ty, e.val⟩ : Ca) := by
        rw [hW8]
        have q1 := F7.out.set (c' := (⟨e.client, e.op, e.put, e.key, p9, e.vn, c9, x.st, (p : Int), -1, e.put, 0, 0, e.val⟩ : Ca)) 5 (.int .i64 x.st) rfl ⟨rfl, rfl, rfl, rfl⟩
        have q2 := q1.set (c' := (⟨e.client, e.op, e.put, e.key, p9, e.vn, c9, x.st, (p : Int), -1, e.put, x.tx, 0, e.val⟩ : Ca)) 9 (.int .i64 x.tx) rfl ⟨rfl, rfl, rfl, rfl⟩
        have q3 := q2.set (c' := (⟨e.client, e.op, e.put, e.key, p9, e.vn, c9, x.st, (p : Int), -1, e.put, x.tx, x.ty, e.val⟩ : Ca)) 10 (.int .i64 x.ty) rfl ⟨rfl, rfl, rfl, rfl⟩
        exact q3.k0 (Kept.refl _ _).drew
      obtain ⟨pu, hpu⟩ : ∃ pu, e.put = pu := ⟨_, rfl⟩
      have F8 : Hid (CO w W8 B4 B6 (⟨e.client, e.op, pu, e.key, p9, e.vn, c9, x.st, (p : Int), -1, pu, x.tx, x.ty, e.val⟩ : Ca)) := by rw [← hpu]; exact F8'
      have CP : Hid (callP es PL = some (endC ⟨e.client, e.op, pu, e.key, e.val, 0, (p : Int), -1, pu, 0, 0⟩ x q)) := by rw [PL2.out, ← hpu]; rfl
      have K78 : Hid (Kept (fun j => j = B6) W7 W8) := by
        rw [hW8]
        exact ((((Kept.refl (fun j => j = B6) W7).setCell (p := ⟨B6, 5, none⟩) (fun _ => rfl) _).setCell (p := ⟨B6, 9, none⟩) (fun _ => rfl) _).setCell (p := ⟨B6, 10, none⟩) (fun _ => rfl) _).drew
      have X8 : Hid (W8.heap[B8]? = some (.cells #[.int .i64 x.kind, .int .i64 x.client, .int .i64 x.op, .bool x.put, .string x.key, .slice x.va x.vn x.vc, .int .i64 x.st, .int .i64 x.tx, .int .i64 x.ty] 39 (0, 0))) := K78.out.get B8c.out NB.out
      have RX8 : Hid (Reads W8 x.va x.vn x.vc x.val) := Reads.kept0 K78.out (RX.out W7 K67.out) (fun h0 a ha z => by
        have q1 := reads_lt (er.rd x (List.mem_of_getElem? hx)) h0 a ha
        have q2 := F7.out.ne.2.1
        have z : a.block = B6 := z
        omega)
      rw [← hW8]
      clear hW8 F8' K78 G5 G9 G10 f5 f9 f10 s0 s1 s2 SH5 SH7 KA KB hHeld
      have X0 := cell_blk X8.out 0 (v := .int .i64 x.kind) rfl
      have X5 := cell_blk X8.out 5 (v := .slice x.va x.vn x.vc) rfl
      have X6 := cell_blk X8.out 6 (v := .int .i64 x.st) rfl
      by_cases k3 : x.kind = 3
      · have q3 : (x.kind == 3) = true := by simp [k3]
        have k3h : Hid (x.kind = 3) := k3
        clear k3
        have g5 := cell_blk F8.out.b6 5 (v := .int .i64 x.st) rfl
        have f5 := soft_blk F8.out.b6 5
        go_upto_region 14 with fail
        obtain ⟨W9, hW9⟩ : ∃ W9, W9 = W8.setCell ⟨B6, 5, none⟩ (.int .i64 77) := ⟨_, rfl⟩
        have F9 : Hid (CO w W9 B4 B6 (⟨e.client, e.op, pu, e.key, p9, e.vn, c9, 77, (p : Int), -1, pu, x.tx, x.ty, e.val⟩ : Ca)) := by rw [hW9]; exact F8.out.set (c' := (⟨e.client, e.op, pu, e.key, p9, e.vn, c9, 77, (p : Int), -1, pu, x.tx, x.ty, e.val⟩ : Ca)) 5 (.int .i64 77) rfl ⟨rfl, rfl, rfl, rfl⟩
        rw [← hW9]
        clear hW9 g5 f5 X0 X5 X6
        have D := F9.out.done
        have FIN : Hid (some (⟨e.client, e.op, pu, e.key, p9, e.vn, c9, 77, (p : Int), -1, pu, x.tx, x.ty, e.val⟩ : Ca).cc = callP es PL ∧ (W9.setRow B4 (⟨e.client, e.op, pu, e.key, p9, e.vn, c9, 77, (p : Int), -1, pu, x.tx, x.ty, e.val⟩ : Ca).cs).ownsRow w.heap.size 5 1 (.slice p9 e.vn c9) e.vn (cellsOf e.val) ∧ Kept (fun _ => False) w (W9.setRow B4 (⟨e.client, e.op, pu, e.key, p9, e.vn, c9, 77, (p : Int), -1, pu, x.tx, x.ty, e.val⟩ : Ca).cs) ∧ (W9.setRow B4 (⟨e.client, e.op, pu, e.key, p9, e.vn, c9, 77, (p : Int), -1, pu, x.tx, x.ty, e.val⟩ : Ca).cs).heap[B4]? = some (.cells (⟨e.client, e.op, pu, e.key, p9, e.vn, c9, 77, (p : Int), -1, pu, x.tx, x.ty, e.val⟩ : Ca).cs 58 (0, 0))) := ⟨by rw [CP.out]; unfold endC; rw [if_pos k3h.out]; rfl, D.2.2, D.2.1, D.1⟩
        clear D
        have L0 := cell_blk F9.out.b6 0 (v := .int .i64 e.client) rfl
        have L1 := cell_blk F9.out.b6 1 (v := .int .i64 e.op) rfl
        have L2 := cell_blk F9.out.b6 2 (v := .bool pu) rfl
        have L3 := cell_blk F9.out.b6 3 (v := .string e.key) rfl
        have L4 := cell_blk F9.out.b6 4 (v := .slice p9 e.vn c9) rfl
        have L5 := cell_blk F9.out.b6 5 (v := .int .i64 77) rfl
        have L6 := cell_blk F9.out.b6 6 (v := .int .i64 (p : Int)) rfl
        have L7 := cell_blk F9.out.b6 7 (v := .int .i64 (-1)) rfl
        have L8 := cell_blk F9.out.b6 8 (v := .bool pu) rfl
        have L9 := cell_blk F9.out.b6 9 (v := .int .i64 x.tx) rfl
        have L10 := cell_blk F9.out.b6 10 (v := .int .i64 x.ty) rfl
        go_wp2_with (first | (refine wpList_store_row rfl 58 (.tmp 4) (.tmp 71) rfl B4 (⟨e.client, e.op, pu, e.key, p9, e.vn, c9, 77, (p : Int), -1, pu, x.tx, x.ty, e.val⟩ : Ca).cs rfl rfl 58 zeroK F9.out.b4 (by kernel_rfl) rfl (by simp [Value.oneCell', Ca.cs]) ?_) | fail)
        refine bodyPost_ret (results_cell_row rfl _ _ B4 58 (⟨e.client, e.op, pu, e.key, p9, e.vn, c9, 77, (p : Int), -1, pu, x.tx, x.ty, e.val⟩ : Ca).cs (0, 0) _ rfl FIN.out.2.2.2 Tryz.underlying58 rfl (by kernel_rfl)) rfl ?_
        exact RetCa.mk (⟨e.client, e.op, pu, e.key, p9, e.vn, c9, 77, (p : Int), -1, pu, x.tx, x.ty, e.val⟩ : Ca) rfl ⟨FIN.out.1, FIN.out.2.1, FIN.out.2.2.1⟩
      · have q3 : (x.kind == 3) = false := by simp [k3]
        have k3h : Hid (¬ x.kind = 3) := k3
        clear k3
        have g2 : W8.cell? ⟨B6, 2, none⟩ = some (.bool pu) := cell_blk F8.out.b6 2 rfl
        clear hpu
        cases pu
        · have C44 : Hid (Calls Tryz.prog 40 #[.slice x.va x.vn x.vc] W8 (RetL (fun r c' w' => Cl5 W8 x.val r x.vn c' w') x.vn)) := hClone RX8.out (hv x (List.mem_of_getElem? hx))
          go_wp2_with fail
          refine C44.out.mono ?_
          rintro o wa ⟨pa, cz, rfl, cla⟩
          have Fa : Hid (CO w wa B4 B6 (⟨e.client, e.op, false, e.key, p9, e.vn, c9, x.st, (p : Int), -1, false, x.tx, x.ty, e.val⟩ : Ca)) := F8.out.k0 cla.kept
          have Ra : Hid (wa.ownsRow w.heap.size 5 1 (.slice pa x.vn cz) x.vn (cellsOf x.val)) := owns_mono cla.row F8.out.kept.size
          have g7 := cell_blk Fa.out.b6 7 (v := .int .i64 (-1)) rfl
          have g4 := cell_blk Fa.out.b6 4 (v := .slice p9 e.vn c9) rfl
          have f7 := soft_blk Fa.out.b6 7
          have f4 := soft_blk Fa.out.b6 4
          clear C44 cla X0 X5 X6 g2
          go_upto_region 14 with fail
          obtain ⟨W9, hW9⟩ : ∃ W9, W9 = (wa.setCell ⟨B6, 7, none⟩ (.int .i64 (q : Int))).setCell ⟨B6, 4, none⟩ (.slice pa x.vn cz) := ⟨_, rfl⟩
          have F9 : Hid (CO w W9 B4 B6 (⟨e.client, e.op, false, e.key, pa, x.vn, cz, x.st, (p : Int), (q : Int), false, x.tx, x.ty, x.val⟩ : Ca)) := by
            rw [hW9]
            exact (Fa.out.set (c' := (⟨e.client, e.op, false, e.key, p9, e.vn, c9, x.st, (p : Int), (q : Int), false, x.tx, x.ty, e.val⟩ : Ca)) 7 (.int .i64 (q : Int)) rfl ⟨rfl, rfl, rfl, rfl⟩).val (Fa.out.off Ra.out 7 _)
          rw [← hW9]
          clear hW9 g7 g4 f7 f4
          have D := F9.out.done
          have FIN : Hid (some (⟨e.client, e.op, false, e.key, pa, x.vn, cz, x.st, (p : Int), (q : Int), false, x.tx, x.ty, x.val⟩ : Ca).cc = callP es PL ∧ (W9.setRow B4 (⟨e.client, e.op, false, e.key, pa, x.vn, cz, x.st, (p : Int), (q : Int), false, x.tx, x.ty, x.val⟩ : Ca).cs).ownsRow w.heap.size 5 1 (.slice pa x.vn cz) x.vn (cellsOf x.val) ∧ Kept (fun _ => False) w (W9.setRow B4 (⟨e.client, e.op, false, e.key, pa, x.vn, cz, x.st, (p : Int), (q : Int), false, x.tx, x.ty, x.val⟩ : Ca).cs) ∧ (W9.setRow B4 (⟨e.client, e.op, false, e.key, pa, x.vn, cz, x.st, (p : Int), (q : Int), false, x.tx, x.ty, x.val⟩ : Ca).cs).heap[B4]? = some (.cells (⟨e.client, e.op, false, e.key, pa, x.vn, cz, x.st, (p : Int), (q : Int), false, x.tx, x.ty, x.val⟩ : Ca).cs 58 (0, 0))) := ⟨by rw [CP.out]; unfold endC; rw [if_neg k3h.out, if_pos rfl]; rfl, D.2.2, D.2.1, D.1⟩
          clear D
          have L0 := cell_blk F9.out.b6 0 (v := .int .i64 e.client) rfl
          have L1 := cell_blk F9.out.b6 1 (v := .int .i64 e.op) rfl
          have L2 := cell_blk F9.out.b6 2 (v := .bool false) rfl
          have L3 := cell_blk F9.out.b6 3 (v := .string e.key) rfl
          have L4 := cell_blk F9.out.b6 4 (v := .slice pa x.vn cz) rfl
          have L5 := cell_blk F9.out.b6 5 (v := .int .i64 x.st) rfl
          have L6 := cell_blk F9.out.b6 6 (v := .int .i64 (p : Int)) rfl
          have L7 := cell_blk F9.out.b6 7 (v := .int .i64 (q : Int)) rfl
          have L8 := cell_blk F9.out.b6 8 (v := .bool false) rfl
          have L9 := cell_blk F9.out.b6 9 (v := .int .i64 x.tx) rfl
          have L10 := cell_blk F9.out.b6 10 (v := .int .i64 x.ty) rfl
          go_wp2_with (first | (refine wpList_store_row rfl 58 (.tmp 4) (.tmp 71) rfl B4 (⟨e.client, e.op, false, e.key, pa, x.vn, cz, x.st, (p : Int), (q : Int), false, x.tx, x.ty, x.val⟩ : Ca).cs rfl rfl 58 zeroK F9.out.b4 (by kernel_rfl) rfl (by simp [Value.oneCell', Ca.cs]) ?_) | fail)
          refine bodyPost_ret (results_cell_row rfl _ _ B4 58 (⟨e.client, e.op, false, e.key, pa, x.vn, cz, x.st, (p : Int), (q : Int), false, x.tx, x.ty, x.val⟩ : Ca).cs (0, 0) _ rfl FIN.out.2.2.2 Tryz.underlying58 rfl (by kernel_rfl)) rfl ?_
          exact RetCa.mk (⟨e.client, e.op, false, e.key, pa, x.vn, cz, x.st, (p : Int), (q : Int), false, x.tx, x.ty, x.val⟩ : Ca) rfl ⟨FIN.out.1, FIN.out.2.1, FIN.out.2.2.1⟩
        · by_cases s3 : x.st = 0
          · have q4 : (x.st == 0) = true := by simp [s3]
            have s3h : Hid (x.st = 0) := s3
            clear s3
            have g7 := cell_blk F8.out.b6 7 (v := .int .i64 (-1)) rfl
            have g8 := cell_blk F8.out.b6 8 (v := .bool true) rfl
            have f7 := soft_blk F8.out.b6 7
            have f8 := soft_blk F8.out.b6 8
            go_upto_region 14 with fail
            obtain ⟨W9, hW9⟩ : ∃ W9, W9 = (W8.setCell ⟨B6, 7, none⟩ (.int .i64 (q : Int))).setCell ⟨B6, 8, none⟩ (.bool false) := ⟨_, rfl⟩
            have F9 : Hid (CO w W9 B4 B6 (⟨e.client, e.op, true, e.key, p9, e.vn, c9, x.st, (p : Int), (q : Int), false, x.tx, x.ty, e.val⟩ : Ca)) := by
              rw [hW9]
              exact (F8.out.set (c' := (⟨e.client, e.op, true, e.key, p9, e.vn, c9, x.st, (p : Int), (q : Int), true, x.tx, x.ty, e.val⟩ : Ca)) 7 (.int .i64 (q : Int)) rfl ⟨rfl, rfl, rfl, rfl⟩).set (c' := (⟨e.client, e.op, true, e.key, p9, e.vn, c9, x.st, (p : Int), (q : Int), false, x.tx, x.ty, e.val⟩ : Ca)) 8 (.bool false) rfl ⟨rfl, rfl, rfl, rfl⟩
            rw [← hW9]
            clear hW9 g7 g8 f7 f8 X0 X5 X6 g2
            have D := F9.out.done
            have FIN : Hid (some (⟨e.client, e.op, true, e.key, p9, e.vn, c9, x.st, (p : Int), (q : Int), false, x.tx, x.ty, e.val⟩ : Ca).cc = callP es PL ∧ (W9.setRow B4 (⟨e.client, e.op, true, e.key, p9, e.vn, c9, x.st, (p : Int), (q : Int), false, x.tx, x.ty, e.val⟩ : Ca).cs).ownsRow w.heap.size 5 1 (.slice p9 e.vn c9) e.vn (cellsOf e.val) ∧ Kept (fun _ => False) w (W9.setRow B4 (⟨e.client, e.op, true, e.key, p9, e.vn, c9, x.st, (p : Int), (q : Int), false, x.tx, x.ty, e.val⟩ : Ca).cs) ∧ (W9.setRow B4 (⟨e.client, e.op, true, e.key, p9, e.vn, c9, x.st, (p : Int), (q : Int), false, x.tx, x.ty, e.val⟩ : Ca).cs).heap[B4]? = some (.cells (⟨e.client, e.op, true, e.key, p9, e.vn, c9, x.st, (p : Int), (q : Int), false, x.tx, x.ty, e.val⟩ : Ca).cs 58 (0, 0))) := ⟨by rw [CP.out]; unfold endC; rw [if_neg k3h.out, if_neg (by simp), if_pos s3h.out]; rfl, D.2.2, D.2.1, D.1⟩
            clear D
            have L0 := cell_blk F9.out.b6 0 (v := .int .i64 e.client) rfl
            have L1 := cell_blk F9.out.b6 1 (v := .int .i64 e.op) rfl
            have L2 := cell_blk F9.out.b6 2 (v := .bool true) rfl
            have L3 := cell_blk F9.out.b6 3 (v := .string e.key) rfl
            have L4 := cell_blk F9.out.b6 4 (v := .slice p9 e.vn c9) rfl
            have L5 := cell_blk F9.out.b6 5 (v := .int .i64 x.st) rfl
            have L6 := cell_blk F9.out.b6 6 (v := .int .i64 (p : Int)) rfl
            have L7 := cell_blk F9.out.b6 7 (v := .int .i64 (q : Int)) rfl
            have L8 := cell_blk F9.out.b6 8 (v := .bool false) rfl
            have L9 := cell_blk F9.out.b6 9 (v := .int .i64 x.tx) rfl
            have L10 := cell_blk F9.out.b6 10 (v := .int .i64 x.ty) rfl
            go_wp2_with (first | (refine wpList_store_row rfl 58 (.tmp 4) (.tmp 71) rfl B4 (⟨e.client, e.op, true, e.key, p9, e.vn, c9, x.st, (p : Int), (q : Int), false, x.tx, x.ty, e.val⟩ : Ca).cs rfl rfl 58 zeroK F9.out.b4 (by kernel_rfl) rfl (by simp [Value.oneCell', Ca.cs]) ?_) | fail)
            refine bodyPost_ret (results_cell_row rfl _ _ B4 58 (⟨e.client, e.op, true, e.key, p9, e.vn, c9, x.st, (p : Int), (q : Int), false, x.tx, x.ty, e.val⟩ : Ca).cs (0, 0) _ rfl FIN.out.2.2.2 Tryz.underlying58 rfl (by kernel_rfl)) rfl ?_
            exact RetCa.mk (⟨e.client, e.op, true, e.key, p9, e.vn, c9, x.st, (p : Int), (q : Int), false, x.tx, x.ty, e.val⟩ : Ca) rfl ⟨FIN.out.1, FIN.out.2.1, FIN.out.2.2.1⟩
          · have q4 : (x.st == 0) = false := by simp [s3]
            have s3h : Hid (¬ x.st = 0) := s3
            clear s3
            have D := F8.out.done
            have FIN : Hid (some (⟨e.client, e.op, true, e.key, p9, e.vn, c9, x.st, (p : Int), -1, true, x.tx, x.ty, e.val⟩ : Ca).cc = callP es PL ∧ (W8.setRow B4 (⟨e.client, e.op, true, e.key, p9, e.vn, c9, x.st, (p : Int), -1, true, x.tx, x.ty, e.val⟩ : Ca).cs).ownsRow w.heap.size 5 1 (.slice p9 e.vn c9) e.vn (cellsOf e.val) ∧ Kept (fun _ => False) w (W8.setRow B4 (⟨e.client, e.op, true, e.key, p9, e.vn, c9, x.st, (p : Int), -1, true, x.tx, x.ty, e.val⟩ : Ca).cs) ∧ (W8.setRow B4 (⟨e.client, e.op, true, e.key, p9, e.vn, c9, x.st, (p : Int), -1, true, x.tx, x.ty, e.val⟩ : Ca).cs).heap[B4]? = some (.cells (⟨e.client, e.op, true, e.key, p9, e.vn, c9, x.st, (p : Int), -1, true, x.tx, x.ty, e.val⟩ : Ca).cs 58 (0, 0))) := ⟨by rw [CP.out]; unfold endC; rw [if_neg k3h.out, if_neg (by simp), if_neg s3h.out]; rfl, D.2.2, D.2.1, D.1⟩
            clear D
            have L0 := cell_blk F8.out.b6 0 (v := .int .i64 e.client) rfl
            have L1 := cell_blk F8.out.b6 1 (v := .int .i64 e.op) rfl
            have L2 := cell_blk F8.out.b6 2 (v := .bool true) rfl
            have L3 := cell_blk F8.out.b6 3 (v := .string e.key) rfl
            have L4 := cell_blk F8.out.b6 4 (v := .slice p9 e.vn c9) rfl
            have L5 := cell_blk F8.out.b6 5 (v := .int .i64 x.st) rfl
            have L6 := cell_blk F8.out.b6 6 (v := .int .i64 (p : Int)) rfl
            have L7 := cell_blk F8.out.b6 7 (v := .int .i64 (-1)) rfl
            have L8 := cell_blk F8.out.b6 8 (v := .bool true) rfl
            have L9 := cell_blk F8.out.b6 9 (v := .int .i64 x.tx) rfl
            have L10 := cell_blk F8.out.b6 10 (v := .int .i64 x.ty) rfl
            go_wp2_with (first | (refine wpList_store_row rfl 58 (.tmp 4) (.tmp 71) rfl B4 (⟨e.client, e.op, true, e.key, p9, e.vn, c9, x.st, (p : Int), -1, true, x.tx, x.ty, e.val⟩ : Ca).cs rfl rfl 58 zeroK F8.out.b4 (by kernel_rfl) rfl (by simp [Value.oneCell', Ca.cs]) ?_) | fail)
            refine bodyPost_ret (results_cell_row rfl _ _ B4 58 (⟨e.client, e.op, true, e.key, p9, e.vn, c9, x.st, (p : Int), -1, true, x.tx, x.ty, e.val⟩ : Ca).cs (0, 0) _ rfl FIN.out.2.2.2 Tryz.underlying58 rfl (by kernel_rfl)) rfl ?_
            exact RetCa.mk (⟨e.client, e.op, true, e.key, p9, e.vn, c9, x.st, (p : Int), -1, true, x.tx, x.ty, e.val⟩ : Ca) rfl ⟨FIN.out.1, FIN.out.2.1, FIN.out.2.2.1⟩
end Go.Proofs.YtbangbobfeflcaaGreatDoor
