import Derived.Test.YtodmakcklacbfaaPAwakeJ
namespace Go.Proofs.Ytodmakcklacbfaa
open Go.RowKit Go.Shelf Go.Lib Go.Sort

def keyK : ByteArray := ⟨#[107]⟩
/-- What a history is made of. -/
structure Md where
  who : List Int
  vals : List (Option Addr × Nat × Nat × List Nat)
  reach : List Int
  opn : List Int
def Md.rch (v : Md) (i : Nat) : Int := v.reach.getD i 0
def Md.fr (v : Md) (i : Nat) : Int := 100 * (i : Int) + 1000 - 1 - v.rch i % 300
def Md.to0 (v : Md) (i : Nat) : Int := 100 * (i : Int) + 1000 + 1 + wrap64 ((v.rch i).tdiv 300) % 300
def Md.vl (v : Md) (i : Nat) : Option Addr × Nat × Nat × List Nat := v.vals.getD i (none, 0, 0, [])
/-- Is the Put open, by the first k? -/
def Md.op (v : Md) (k i : Nat) : Bool := (v.opn.take k).any fun x => decide (x % 24 = (i : Int)) || decide (x % 24 = (i : Int) + 12)
/-- And without a tag that it tells? -/
def Md.sil (v : Md) (k i : Nat) : Bool := (v.opn.take k).any fun x => decide (x % 24 = (i : Int) + 12)
def Md.base (v : Md) (i : Nat) : Cm := ⟨100 + (i : Int), 1, false, keyK, none, 0, 0, 0, v.fr i, v.to0 i, false, 0, 0, []⟩
def Md.put (v : Md) (k i : Nat) : Cm := ⟨100 + (i : Int), 1, true, keyK, (v.vl i).1, (v.vl i).2.1, (v.vl i).2.2.1, 0, v.fr i, if v.op k i = true then -1 else v.to0 i, v.op k i, if v.sil k i = true then 0 else (i : Int) + 1, if v.sil k i = true then 0 else 100 + (i : Int), (v.vl i).2.2.2⟩
/-- The last Put of the first i calls, as it was begun. -/
def Md.last (v : Md) : Nat → Option Cm
  | 0 => none
  | i + 1 => if 0 < v.who.getD i 0 then some (v.put 0 i) else v.last i
def Md.get (v : Md) (i : Nat) (l : Cm) : Cm := ⟨100 + (i : Int), 1, false, keyK, l.va, l.vn, l.vc, 0, v.fr i, v.to0 i, false, l.tx, l.ty, l.val⟩
def Md.none (v : Md) (i : Nat) : Cm := ⟨100 + (i : Int), 1, false, keyK, .none, 0, 0, 76, v.fr i, v.to0 i, false, 0, 0, []⟩
def Md.one (v : Md) (i : Nat) : Cm := if 0 < v.who.getD i 0 then v.put v.opn.length i else match v.last i with | some l => v.get i l | .none => v.none i
def Md.hist (v : Md) (n : Nat) : List Cm := (List.range n).map v.one
theorem Md.hist_add (v : Md) (n : Nat) : v.hist (n + 1) = v.hist n ++ [v.one n] := by unfold Md.hist; rw [List.range_succ, List.map_append]; rfl
/-- A list of lists of bytes reads so. -/
structure VRd (w : World) (p : Option Addr) (n c : Nat) (vs : List (Option Addr × Nat × Nat × List Nat)) : Prop where
  len : vs.length = n
  room : n ≤ c
  small : c ≤ maxLen
  cells : 0 < n → ∃ b off, p = some ⟨b, off, .none⟩ ∧ ∀ i x, vs[i]? = some x → w.cell? ⟨b, off + i, .none⟩ = some (.slice x.1 x.2.1 x.2.2.1)
  rd : ∀ x ∈ vs, Reads w x.1 x.2.1 x.2.2.1 x.2.2.2
theorem VRd.k0 {w w' : World} {p : Option Addr} {n c : Nat} {vs : List (Option Addr × Nat × Nat × List Nat)} (h : VRd w p n c vs) (K : Kept (fun _ => False) w w') : VRd w' p n c vs := by
  refine ⟨h.len, h.room, h.small, fun h0 => ?_, fun x hx => Reads.kept K (h.rd x hx) (fun _ _ z => z)⟩
  obtain ⟨b, off, e, hc⟩ := h.cells h0
  exact ⟨b, off, e, fun i x hx => K.cell (hc i x hx) (fun z => z)⟩
theorem VRd.at {w : World} {p : Option Addr} {n c : Nat} {vs : List (Option Addr × Nat × Nat × List Nat)} (h : VRd w p n c vs) {i : Nat} (hi : i < n) : ∃ b off x, p = some ⟨b, off, .none⟩ ∧ vs[i]? = some x ∧ w.cell? ⟨b, off + i, .none⟩ = some (.slice x.1 x.2.1 x.2.2.1) := by
  obtain ⟨b, off, e, hc⟩ := h.cells (by omega)
  have hl : i < vs.length := by rw [h.len]; exact hi
  exact ⟨b, off, vs[i], e, List.getElem?_eq_getElem hl, hc i _ (List.getElem?_eq_getElem hl)⟩
/-- What a history is made of, in memory. -/
structure MdR (w : World) (v : Md) (pw : Option Addr) (nw cw : Nat) (pv : Option Addr) (nv cv : Nat) (pr : Option Addr) (nr cr : Nat) (po : Option Addr) (no co : Nat) : Prop where
  who : IRd w pw nw cw v.who
  vals : VRd w pv nv cv v.vals
  reach : IRd w pr nr cr v.reach
  opn : IRd w po no co v.opn
theorem MdR.k0 {w w' : World} {v : Md} {pw : Option Addr} {nw cw : Nat} {pv : Option Addr} {nv cv : Nat} {pr : Option Addr} {nr cr : Nat} {po : Option Addr} {no co : Nat} (h : MdR w v pw nw cw pv nv cv pr nr cr po no co) (K : Kept (fun _ => False) w w') : MdR w' v pw nw cw pv nv cv pr nr cr po no co := ⟨h.who.k0 K, h.vals.k0 K, h.reach.k0 K, h.opn.k0 K⟩
/-- On the way, with the call that is made. -/
structure HB (w : World) (v : Md) (LB : Nat) (MC : Array Value) (i : Nat) (pl : Option Addr) (cl : Nat) (pq : Option Addr) (cq : Nat) (B : Nat) (m : Cm) (lst : Option Cm) (wr : World) : Prop where
  box : wr.heap[B]? = some (.cells m.cs 38 (0, 0))
  calls : CRow (LB + 1) wr pl i cl (v.hist i)
  nums : NRow (LB + 1) wr pq i cq (List.range i)
  ne : LB < B ∧ ¬ blockOf pl = some B
  made : wr.heap[w.heap.size]? = some (.cells MC 25 (0, 0))
  last : ∃ C, wr.heap[LB]? = some (.cells C 38 (0, 0)) ∧ C.size = 11 ∧ ∀ l, lst = some l → C = l.cs
  kept : Kept (fun _ => False) w wr
  lb : LB = w.heap.size + 1
theorem HB.numsB {w : World} {v : Md} {LB : Nat} {MC : Array Value} {i : Nat} {pl : Option Addr} {cl : Nat} {pq : Option Addr} {cq : Nat} {B : Nat} {m : Cm} {lst : Option Cm} {wr : World} (h : HB w v LB MC i pl cl pq cq B m lst wr) : ¬ blockOf pq = some B := fun z => by
  obtain ⟨cs, hc⟩ := own_type h.nums.row B z
  rw [h.box] at hc
  simp at hc
/-- A cell of the call is written. -/
theorem HB.set {w : World} {v : Md} {LB : Nat} {MC : Array Value} {i : Nat} {pl : Option Addr} {cl : Nat} {pq : Option Addr} {cq : Nat} {B : Nat} {m : Cm} {lst : Option Cm} {wr : World} (h : HB w v LB MC i pl cl pq cq B m lst wr) (j : Nat) (u : Value) {m' : Cm} (hc : m'.cs = m.cs.setIfInBounds j u) : HB w v LB MC i pl cl pq cq B m' lst (wr.setCell ⟨B, j, .none⟩ u) := by
  have K : Kept (fun x => x = B) wr (wr.setCell ⟨B, j, .none⟩ u) := (Kept.refl (fun x => x = B) wr).setCell (p := ⟨B, j, .none⟩) (fun _ => rfl) u
  have hl := h.lb
  have hb := h.ne.1
  refine ⟨?_, ⟨h.calls.len, K.owns h.calls.row (fun x z y => h.ne.2 (by rw [blockOf_own] at z; rw [z]; exact congrArg some y))⟩, h.nums.off K (fun x z y => h.numsB (by rw [z]; exact congrArg some y)), h.ne, K.get h.made (fun z => by have z : w.heap.size = B := z; omega), ?_, h.kept.trans K (fun x hx z => by have z : x = B := z; omega), hl⟩
  · rw [hc]
    exact set_heap h.box j u
  · obtain ⟨C, h1, h2⟩ := h.last
    exact ⟨C, K.get h1 (fun z => by have z : LB = B := z; omega), h2⟩
theorem HB.k0 {w : World} {v : Md} {LB : Nat} {MC : Array Value} {i : Nat} {pl : Option Addr} {cl : Nat} {pq : Option Addr} {cq : Nat} {B : Nat} {m : Cm} {lst : Option Cm} {wr w' : World} (h : HB w v LB MC i pl cl pq cq B m lst wr) (K : Kept (fun _ => False) wr w') : HB w v LB MC i pl cl pq cq B m lst w' := by
  refine ⟨K.get h.box (fun z => z), h.calls.k0 K, h.nums.k0 K, h.ne, K.get h.made (fun z => z), ?_, h.kept.trans K (fun _ _ z => z), h.lb⟩
  obtain ⟨C, h1, h2⟩ := h.last
  exact ⟨C, K.get h1 (fun z => z), h2⟩
/-- On the way, between two calls. -/
structure HS (w : World) (v : Md) (LB : Nat) (MC : Array Value) (i : Nat) (pl : Option Addr) (cl : Nat) (pq : Option Addr) (cq : Nat) (wr : World) : Prop where
  calls : CRow (LB + 1) wr pl i cl (v.hist i)
  nums : NRow (LB + 1) wr pq i cq (List.range i)
  made : wr.heap[w.heap.size]? = some (.cells MC 25 (0, 0))
  last : ∃ C, wr.heap[LB]? = some (.cells C 38 (0, 0)) ∧ C.size = 11 ∧ ∀ l, v.last i = some l → C = l.cs
  kept : Kept (fun _ => False) w wr
  lb : LB = w.heap.size + 1
theorem HS.new {w : World} {v : Md} {LB : Nat} {MC : Array Value} {i : Nat} {pl : Option Addr} {cl : Nat} {pq : Option Addr} {cq : Nat} {wr : World} (h : HS w v LB MC i pl cl pq cq wr) {m : Cm} {C : Array Value} (hc : C = m.cs) : HB w v LB MC i pl cl pq cq wr.heap.size m (v.last i) (wr.alloc (.cells C 38)) := by
  have K : Kept (fun _ => False) wr (wr.alloc (.cells C 38)) := (Kept.refl _ _).alloc _
  refine ⟨by rw [← hc]; exact alloc_new _ _, h.calls.k0 K, h.nums.k0 K, ⟨?_, fun z => ?_⟩, K.get h.made (fun z => z), ?_, h.kept.trans K (fun _ _ z => z), h.lb⟩
  · obtain ⟨C, h1, _⟩ := h.last
    exact block_lt h1
  · have := (own_lt h.calls.row _ z).2
    omega
  · obtain ⟨C, h1, h2⟩ := h.last
    exact ⟨C, K.get h1 (fun z => z), h2⟩
/-- A Put on its way. -/
def Md.put1 (v : Md) (i : Nat) : Cm := ⟨100 + (i : Int), 1, true, keyK, (v.vl i).1, (v.vl i).2.1, (v.vl i).2.2.1, 0, v.fr i, v.to0 i, false, 0, 0, (v.vl i).2.2.2⟩
def Md.putB (v : Md) (i : Nat) : Cm := ⟨100 + (i : Int), 1, true, keyK, .none, 0, 0, 0, v.fr i, v.to0 i, false, 0, 0, []⟩
theorem arr11 {C : Array Value} (h : C.size = 11) : ∃ c0 c1 c2 c3 c4 c5 c6 c7 c8 c9 c10, C = #[c0, c1, c2, c3, c4, c5, c6, c7, c8, c9, c10] := by
  obtain ⟨l⟩ := C
  match l, h with
  | [c0, c1, c2, c3, c4, c5, c6, c7, c8, c9, c10], _ => exact ⟨c0, c1, c2, c3, c4, c5, c6, c7, c8, c9, c10, rfl⟩
/-- The call is kept as the last Put. -/
theorem HB.keep {w : World} {v : Md} {LB : Nat} {MC : Array Value} {i : Nat} {pl : Option Addr} {cl : Nat} {pq : Option Addr} {cq : Nat} {B : Nat} {m : Cm} {lst : Option Cm} {wr w' : World} (h : HB w v LB MC i pl cl pq cq B m lst wr) (K : Kept (fun x => x = LB) wr w') (hl : w'.heap[LB]? = some (.cells m.cs 38 (0, 0))) : HB w v LB MC i pl cl pq cq B m (some m) w' := by
  have lb := h.lb
  have ne := h.ne.1
  refine ⟨K.get h.box (fun z => by have z : B = LB := z; omega), ⟨h.calls.len, K.owns h.calls.row (fun x z y => ?_)⟩, h.nums.off K (fun x z y => ?_), h.ne, K.get h.made (fun z => by have z : w.heap.size = LB := z; omega), ⟨_, hl, rfl, fun l e => by rw [← Option.some.inj e]⟩, h.kept.trans K (fun x hx z => by have z : x = LB := z; omega), lb⟩
  · rw [blockOf_own] at z
    have := (own_lt h.calls.row x z).1
    have y : x = LB := y
    omega
  · have := (own_lt h.nums.row x z).1
    have y : x = LB := y
    omega
/-- Both lists have grown by one. -/
theorem HB.next {w : World} {v : Md} {LB : Nat} {MC : Array Value} {i : Nat} {pl : Option Addr} {cl : Nat} {pq : Option Addr} {cq : Nat} {B : Nat} {wg wi w9 wj w10 : World} {o1 o2 : Obj} {p9 p10 : Option Addr} {c9 c10 : Nat} (h : HB w v LB MC i pl cl pq cq B (v.one i) (v.last (i + 1)) wg) (e1 : wi = wg.alloc o1) (ho : w9.ownsRow (LB + 1) 38 11 (.slice p9 (i + 1) c9) (i + 1) (ccells (v.hist i) ++ ccells [v.one i])) (hg : wi.grownBy w9 (Value.slice pl i cl).ownBlock) (e2 : wj = w9.alloc o2) (ho2 : w10.ownsRow (LB + 1) 3 1 (.slice p10 (i + 1) c10) (i + 1) (intsN (List.range i) ++ intsN [i])) (hg2 : wj.grownBy w10 (Value.slice pq i cq).ownBlock) : HS w v LB MC (i + 1) p9 c9 p10 c10 w10 := by
  have KG1 : Kept (fun j => blockOf pl = some j) wg w9 := by
    rw [e1] at hg
    exact ((Kept.refl (fun j => blockOf pl = some j) wg).alloc _).grown hg (fun j _ z => by rw [blockOf_own] at z; exact z)
  have KG2 : Kept (fun j => blockOf pq = some j) w9 w10 := by
    rw [e2] at hg2
    exact ((Kept.refl (fun j => blockOf pq = some j) w9).alloc _).grown hg2 (fun j _ z => by rw [blockOf_own] at z; exact z)
  have lb := h.lb
  have ap : ∀ j, blockOf pq = some j → ¬ blockOf pl = some j := fun j z y => by
    obtain ⟨c1, h1⟩ := own_type h.nums.row j z
    obtain ⟨c2, h2⟩ := own_type h.calls.row j y
    rw [h1] at h2
    simp at h2
  have n9 : NRow (LB + 1) w9 pq i cq (List.range i) := h.nums.off KG1 (fun j z => ap j z)
  have b1 : ∀ j, blockOf pl = some j → LB + 1 ≤ j := fun j z => (own_lt h.calls.row j z).1
  have b2 : ∀ j, blockOf pq = some j → LB + 1 ≤ j := fun j z => (own_lt h.nums.row j z).1
  refine ⟨⟨?_, ?_⟩, ⟨by simp, ?_⟩, KG2.get (KG1.get h.made (fun z => by have := b1 _ z; omega)) (fun z => by have := b2 _ z; omega), ?_, (h.kept.trans KG1 (fun j hj z => by have := b1 _ z; omega)).trans KG2 (fun j hj z => by have := b2 _ z; omega), lb⟩
  · unfold Md.hist
    simp
  · rw [Md.hist_add, ccells_append]
    refine KG2.owns ho (fun j z y => ?_)
    rw [blockOf_own] at z
    obtain ⟨c1, h1⟩ := own_type ho j z
    obtain ⟨c2, h2⟩ := own_type n9.row j y
    rw [h1] at h2
    simp at h2
  · rw [List.range_succ, intsN_append]
    exact ho2
  · obtain ⟨C, h1, h2⟩ := h.last
    exact ⟨C, KG2.get (KG1.get h1 (fun z => by have := b1 _ z; omega)) (fun z => by have := b2 _ z; omega), h2⟩
theorem Md.op_add {v : Md} {j i : Nat} {x : Int} (h : v.opn[j]? = some x) : v.op (j + 1) i = (v.op j i || (decide (x % 24 = (i : Int)) || decide (x % 24 = (i : Int) + 12))) ∧ v.sil (j + 1) i = (v.sil j i || decide (x % 24 = (i : Int) + 12)) := by
  unfold Md.op Md.sil
  rw [List.take_add_one, h, List.any_append, List.any_append]
  simp
theorem Md.put_open {v : Md} {j i : Nat} {x : Int} (h : v.opn[j]? = some x) (e : x % 24 = (i : Int)) : (v.put (j + 1) i).cs = ((v.put j i).cs.setIfInBounds 8 (.bool true)).setIfInBounds 7 (.int .i64 (-1)) := by
  obtain ⟨h1, h2⟩ := v.op_add (i := i) h
  have e1 : v.op (j + 1) i = true := by rw [h1]; simp [e]
  have e2 : v.sil (j + 1) i = v.sil j i := by rw [h2, decide_eq_false (by omega), Bool.or_false]
  unfold Md.put Cm.cs
  rw [e1, e2]
  rfl
theorem Md.put_sil {v : Md} {j i : Nat} {x : Int} (h : v.opn[j]? = some x) (e : x % 24 = (i : Int) + 12) : (v.put (j + 1) i).cs = ((((v.put j i).cs.setIfInBounds 8 (.bool true)).setIfInBounds 7 (.int .i64 (-1))).setIfInBounds 9 (.int .i64 0)).setIfInBounds 10 (.int .i64 0) := by
  obtain ⟨h1, h2⟩ := v.op_add (i := i) h
  have e1 : v.op (j + 1) i = true := by rw [h1]; simp [e]
  have e2 : v.sil (j + 1) i = true := by rw [h2]; simp [e]
  unfold Md.put Cm.cs
  rw [e1, e2]
  rfl
theorem Md.put_same {v : Md} {j i : Nat} {x : Int} (h : v.opn[j]? = some x) (e : ¬ x % 24 = (i : Int)) (e' : ¬ x % 24 = (i : Int) + 12) : v.put (j + 1) i = v.put j i := by
  obtain ⟨h1, h2⟩ := v.op_add (i := i) h
  have e1 : v.op (j + 1) i = v.op j i := by rw [h1, decide_eq_false e, decide_eq_false e']; simp
  have e2 : v.sil (j + 1) i = v.sil j i := by rw [h2, decide_eq_false e', Bool.or_false]
  unfold Md.put
  rw [e1, e2]
theorem set11 {wr : World} {LB : Nat} {C : Array Value} (h : wr.heap[LB]? = some (.cells C 38 (0, 0))) (hs : C.size = 11) (a0 a1 a2 a3 a4 a5 a6 a7 a8 a9 a10 : Value) : (((((((((((wr.setCell ⟨LB, 0, .none⟩ a0).setCell ⟨LB, 1, .none⟩ a1).setCell ⟨LB, 2, .none⟩ a2).setCell ⟨LB, 3, .none⟩ a3).setCell ⟨LB, 4, .none⟩ a4).setCell ⟨LB, 5, .none⟩ a5).setCell ⟨LB, 6, .none⟩ a6).setCell ⟨LB, 7, .none⟩ a7).setCell ⟨LB, 8, .none⟩ a8).setCell ⟨LB, 9, .none⟩ a9).setCell ⟨LB, 10, .none⟩ a10).heap[LB]? = some (.cells #[a0, a1, a2, a3, a4, a5, a6, a7, a8, a9, a10] 38 (0, 0)) ∧ Kept (fun x => x = LB) wr (((((((((((wr.setCell ⟨LB, 0, .none⟩ a0).setCell ⟨LB, 1, .none⟩ a1).setCell ⟨LB, 2, .none⟩ a2).setCell ⟨LB, 3, .none⟩ a3).setCell ⟨LB, 4, .none⟩ a4).setCell ⟨LB, 5, .none⟩ a5).setCell ⟨LB, 6, .none⟩ a6).setCell ⟨LB, 7, .none⟩ a7).setCell ⟨LB, 8, .none⟩ a8).setCell ⟨LB, 9, .none⟩ a9).setCell ⟨LB, 10, .none⟩ a10) := by
  obtain ⟨c0, c1, c2, c3, c4, c5, c6, c7, c8, c9, c10, rfl⟩ := arr11 hs
  have K := Kept.refl (fun x => x = LB) wr
  refine ⟨?_, (((((((((((K.setCell (p := ⟨LB, 0, .none⟩) (fun _ => rfl) _).setCell (p := ⟨LB, 1, .none⟩) (fun _ => rfl) _).setCell (p := ⟨LB, 2, .none⟩) (fun _ => rfl) _).setCell (p := ⟨LB, 3, .none⟩) (fun _ => rfl) _).setCell (p := ⟨LB, 4, .none⟩) (fun _ => rfl) _).setCell (p := ⟨LB, 5, .none⟩) (fun _ => rfl) _).setCell (p := ⟨LB, 6, .none⟩) (fun _ => rfl) _).setCell (p := ⟨LB, 7, .none⟩) (fun _ => rfl) _).setCell (p := ⟨LB, 8, .none⟩) (fun _ => rfl) _).setCell (p := ⟨LB, 9, .none⟩) (fun _ => rfl) _).setCell (p := ⟨LB, 10, .none⟩) (fun _ => rfl) _)⟩
  have := set_heap (set_heap (set_heap (set_heap (set_heap (set_heap (set_heap (set_heap (set_heap (set_heap (set_heap h 0 a0) 1 a1) 2 a2) 3 a3) 4 a4) 5 a5) 6 a6) 7 a7) 8 a8) 9 a9) 10 a10
  simpa using this
theorem Md.put0_cs (v : Md) (i : Nat) : (v.put 0 i).cs = #[.int .i64 (100 + (i : Int)), .int .i64 1, .bool true, .string keyK, .slice (v.vl i).1 (v.vl i).2.1 (v.vl i).2.2.1, .int .i64 0, .int .i64 (v.fr i), .int .i64 (v.to0 i), .bool false, .int .i64 ((i : Int) + 1), .int .i64 (100 + (i : Int))] := by
  unfold Md.put Cm.cs Md.op Md.sil
  simp
end Go.Proofs.Ytodmakcklacbfaa
