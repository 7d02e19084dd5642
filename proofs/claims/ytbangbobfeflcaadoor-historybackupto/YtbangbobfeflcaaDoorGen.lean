import Derived.Test.YtbangbobfeflcaaDoorBase
import Derived.Deep.RegionHeldLaw
namespace Go.Proofs.YtbangbobfeflcaaDoor
open Go.RowKit

theorem owns_mono {w : World} {b b' : Nat} {e : TypeId} {s : Nat} {v : Value} {n : Nat} {xs : List Value} (h : w.ownsRow b e s v n xs) (hb : b' ≤ b) : w.ownsRow b' e s v n xs := by
  refine ⟨h.1, ?_⟩
  rcases h.2 with q | ⟨g, cap, cur, e0, h1, rest⟩
  · exact .inl q
  · exact .inr ⟨g, cap, cur, e0, Nat.le_trans hb h1, rest⟩
theorem kept_below {w w' : World} (B : Below w.heap.size w w') : Kept (fun _ => False) w w' := ⟨B.os, B.tape, B.output, B.size, fun k hk _ => B.block k hk⟩
theorem below_kept {w w' : World} (K : Kept (fun _ => False) w w') : Below w.heap.size w w' := ⟨K.os, K.tape, K.output, K.size, fun k hk => K.block k hk (fun q => q)⟩
def blockOf (a : Option Addr) : Option Nat := a.map (·.block)
theorem blockOf_own (a : Option Addr) (n c : Nat) : (Value.slice a n c).ownBlock = blockOf a := by cases a <;> rfl
theorem own_lt {w : World} {base : Nat} {e : TypeId} {s : Nat} {a : Option Addr} {n c : Nat} {xs : List Value} (h : w.ownsRow base e s (.slice a n c) n xs) : ∀ k, blockOf a = some k → base ≤ k ∧ k < w.heap.size := fun k hk => h.lt k (by rw [blockOf_own]; exact hk)
theorem own_type {w : World} {base : Nat} {e : TypeId} {s : Nat} {a : Option Addr} {n c : Nat} {xs : List Value} (h : w.ownsRow base e s (.slice a n c) n xs) : ∀ k, blockOf a = some k → ∃ cs, w.heap[k]? = some (.cells cs e (0, 0)) := fun k hk => by
  rcases h.2 with ⟨e0, _⟩ | ⟨g, cap, cur, e0, _, hg, _⟩
  · simp at e0; rw [e0.1] at hk; simp [blockOf] at hk
  · simp at e0; rw [e0.1] at hk; simp [blockOf] at hk; subst hk; exact ⟨_, hg⟩
theorem own_room {w : World} {base : Nat} {e : TypeId} {s : Nat} {a : Option Addr} {n c : Nat} {xs : List Value} (h : w.ownsRow base e s (.slice a n c) n xs) : n ≤ c ∧ c ≤ maxLen := by
  rcases h.2 with ⟨e0, e1⟩ | ⟨g, cap, cur, e0, _, _, h1, h2, _⟩
  · simp at e0; obtain ⟨_, rfl, rfl⟩ := e0; exact ⟨Nat.le_refl _, by unfold maxLen; omega⟩
  · simp at e0; obtain ⟨_, rfl⟩ := e0; exact ⟨h1, h2⟩
set_option maxRecDepth 100000 in
theorem nil_none (cap : Nat) (w : World) : (binOp .eql 41 (.slice none 0 cap) (.slice none 0 0)).run Tryd.prog w = .ok (.bool true) w := by kernel_rfl
theorem nil_some (ad : Addr) (len cap : Nat) (w : World) : (binOp .eql 41 (.slice (some ad) len cap) (.slice none 0 0)).run Tryd.prog w = .ok (.bool false) w := by kernel_rfl
theorem set_heap {w : World} {b : Nat} {cs : Array Value} {t : TypeId} (h : w.heap[b]? = some (.cells cs t (0, 0))) (i : Nat) (u : Value) : (w.setCell ⟨b, i, none⟩ u).heap[b]? = some (.cells (cs.setIfInBounds i u) t (0, 0)) := heap_setCell_same w b i cs t u h
theorem set_other {w : World} {b c : Nat} (i : Nat) (u : Value) (hn : c ≠ b) : (w.setCell ⟨b, i, none⟩ u).heap[c]? = w.heap[c]? := Below.heap_setCell _ _ _ _ hn
theorem alloc_new (w : World) (o : Obj) : (w.alloc o).heap[w.heap.size]? = some o := heap_alloc_new w o
theorem alloc_old {w : World} (o : Obj) {k : Nat} {q : Obj} (h : w.heap[k]? = some q) : (w.alloc o).heap[k]? = some q := (Below.heap_alloc _ _ _ (block_lt h)).trans h
theorem alloc_size (w : World) (o : Obj) : (w.alloc o).heap.size = w.heap.size + 1 := by simp
theorem alloc_kept0 (w : World) (o : Obj) : Kept (fun _ => False) w (w.alloc o) := (Kept.refl _ w).alloc o
set_option maxRecDepth 100000 in
/-- bytes.Clone. -/
theorem cellsOf_set (l : List Nat) (t x : Nat) : cellsOf (l.set t x) = (cellsOf l).set t (.int .u8 (x : Int)) := by
  unfold cellsOf
  rw [List.map_set]
/-- A store into an owned row of one-cell elements. -/
theorem owns_set {w : World} {base : Nat} {e : TypeId} {g n c : Nat} {xs : List Value} (h : w.ownsRow base e 1 (.slice (some ⟨g, 0, none⟩) n c) n xs) (i : Nat) (u : Value) :
    (w.setCell ⟨g, i, none⟩ u).ownsRow base e 1 (.slice (some ⟨g, 0, none⟩) n c) n (xs.set i u) := by
  refine ⟨by rw [List.length_set]; exact h.1, ?_⟩
  rcases h.2 with ⟨e0, _⟩ | ⟨g4, c4, cur, e4, hb, hg, hn, hm, hs, ht⟩
  · simp at e0
  · simp at e4
    obtain ⟨rfl, rfl⟩ := e4
    refine .inr ⟨g, c, cur.setIfInBounds i u, rfl, hb, set_heap hg i u, hn, hm, by simpa using hs, ?_⟩
    rw [Nat.mul_one] at ht ⊢
    rw [← ht, Array.toList_setIfInBounds, List.take_set]
/-- The bytes of an owned row, and that they may be written. -/
theorem own_byte {w : World} {base len c : Nat} {p : Option Addr} {l : List Nat} (h : w.ownsRow base 5 1 (.slice p len c) len (cellsOf l)) (hb : ∀ c ∈ l, c < 256) (h0 : 0 < len) :
    ∃ g, p = some ⟨g, 0, none⟩ ∧ ∀ j, j < len → w.cell? ⟨g, j, none⟩ = some (.int .u8 ((l.getD j 0 : Nat) : Int)) ∧ w.frozen? ⟨g, j, none⟩ = false := by
  rcases h.2 with ⟨e0, e1⟩ | ⟨g, cap, cur, e0, _, hg, _⟩
  · omega
  · simp at e0
    obtain ⟨rfl, rfl⟩ := e0
    obtain ⟨a, cap, e, r, _⟩ := owns_reads h hb
    simp at e
    obtain ⟨rfl, rfl⟩ := e
    obtain ⟨b, off, e, hc⟩ := r.cells h0
    simp at e
    obtain ⟨rfl, rfl⟩ := e
    exact ⟨g, rfl, fun j hj => ⟨by have := hc j hj; rw [Nat.zero_add] at this; exact this, soft_blk hg j⟩⟩
/-- Bytes as a text. -/
def str (l : List Nat) : ByteArray := ⟨(l.map UInt8.ofNat).toArray⟩
theorem Reads.string {w : World} {a : Option Addr} {len cap : Nat} {l : List Nat} (r : Reads w a len cap l) : (convert 41 9 (.slice a len cap)).run Tryd.prog w = .ok (.string (str l)) w := by
  have hlen := r.length
  subst hlen
  have hm : (l.map UInt8.ofNat).length = l.length := List.length_map ..
  have some_case : ∀ ad : Addr, a = some ad → (∀ j, j < l.length → w.cell? (ad.add j) = some (.int .u8 ((l.getD j 0 : Nat) : Int))) → (convert 41 9 (.slice a l.length cap)).run Tryd.prog w = .ok (.string (str l)) w := fun ad e hc => by
    subst e
    have := run_convert_bytes_back (P := Tryd.prog) w 41 9 5 ad cap (l.map UInt8.ofNat) Tryd.underlying41 Tryd.underlying5 Tryd.underlying9 (fun j hj => by
      have hj' : j < l.length := by rw [← hm]; exact hj
      rw [hc j hj']
      have hb := r.bytes l[j] (List.getElem_mem hj')
      have e1 : l.getD j 0 = l[j] := by rw [List.getD_eq_getElem?_getD, List.getElem?_eq_getElem hj']; rfl
      rw [e1, List.getElem_map, UInt8.toNat_ofNat']
      congr 3
      omega)
    rw [hm] at this
    exact this
  by_cases h0 : 0 < l.length
  · obtain ⟨b, off, e, hc⟩ := r.cells h0
    exact some_case _ e (fun j hj => by rw [Addr.add_none]; exact hc j hj)
  · have hl : l = [] := List.eq_nil_of_length_eq_zero (by omega)
    subst hl
    cases a with
    | some ad => exact some_case ad rfl (fun j hj => absurd hj (by simp))
    | none =>
      have e : (convert 41 9 (.slice none 0 cap)).run Tryd.prog w = .ok (.string (str [])) w := by kernel_rfl
      exact e
theorem step_call {ops : Array Oper} {o : Oper} {a : Act} {K : Act → World → Prop} {Q : Exit → Act → World → Prop} {E : Prop} (w : World) (hgd : o.guard = none) (f : FuncId) (args : List Operand) (ats : Array TypeId)
    (ho : o.op = .call { callee := .value (.func f), args := args.toArray, argTypes := ats }) (vs : List Value) (hv : args.map a.eval = vs)
    (hcf : (callFunc f vs.toArray).run Tryd.prog w = .ok (.enter f vs.toArray) w) (h : Calls Tryd.prog f vs.toArray w fun x w' => ∃ v, x = .returned v ∧ K (a.put o.dst v) w') : if Region.wanted o (yielded ops a.tmps) = true then Oper.wp Tryd.prog o a w K Q else E := by
  have hw : Region.wanted o (yielded ops a.tmps) = true := by simp [Region.wanted, hgd]
  rw [if_pos hw]
  unfold Oper.wp execOp
  simp [ho, resolve, invoke, hv, hcf, Act.eval, Deferred.ofValue]
  refine h.mono ?_
  rintro x w' ⟨v, rfl, hk⟩
  exact hk
theorem step_callv {ops : Array Oper} {o : Oper} {a : Act} {K : Act → World → Prop} {Q : Exit → Act → World → Prop} {E : Prop} (w : World) (hgd : o.guard = none) (t : Operand) (f : FuncId) (args : List Operand) (ats : Array TypeId)
    (ho : o.op = .call { callee := .value t, args := args.toArray, argTypes := ats }) (ht : a.eval t = .func (.func f) #[] #[]) (vs : List Value) (hv : args.map a.eval = vs)
    (hcf : (callFunc f vs.toArray).run Tryd.prog w = .ok (.enter f vs.toArray) w) (h : Calls Tryd.prog f vs.toArray w fun x w' => ∃ v, x = .returned v ∧ K (a.put o.dst v) w') : if Region.wanted o (yielded ops a.tmps) = true then Oper.wp Tryd.prog o a w K Q else E := by
  have hw : Region.wanted o (yielded ops a.tmps) = true := by simp [Region.wanted, hgd]
  rw [if_pos hw]
  unfold Oper.wp execOp
  simp [ho, resolve, invoke, hv, ht, hcf, Deferred.ofValue]
  refine h.mono ?_
  rintro x w' ⟨v, rfl, hk⟩
  exact hk
theorem alloc_new2 (w : World) (o1 : Obj) (cs : Array Value) (t : TypeId) : ((w.alloc o1).alloc (.cells cs t)).heap[w.heap.size + 1]? = some (.cells cs t (0, 0)) := by
  have := alloc_new (w.alloc o1) (.cells cs t)
  rw [alloc_size] at this
  exact this
theorem get_alloc {w : World} {o' : Obj} {b : Nat} {o : Obj} (h : w.heap[b]? = some o) : (w.alloc o').heap[b]? = some o := (alloc_kept0 w o').get h (fun q => q)
theorem get_drew {w : World} {b : Nat} {o : Obj} (h : w.heap[b]? = some o) : w.drew.heap[b]? = some o := h
theorem drew_size (w : World) : w.drew.heap.size = w.heap.size := rfl
theorem alloc_newD (w : World) (cs : Array Value) (t : TypeId) : (w.drew.alloc (.cells cs t)).heap[w.heap.size]? = some (.cells cs t (0, 0)) := alloc_new w.drew _
theorem alloc_newD2 (w : World) (o : Obj) (cs : Array Value) (t : TypeId) : ((w.drew.alloc o).alloc (.cells cs t)).heap[w.heap.size + 1]? = some (.cells cs t (0, 0)) := alloc_new2 w.drew o cs t
theorem step_call_d {ops : Array Oper} {o : Oper} {a : Act} {K : Act → World → Prop} {Q : Exit → Act → World → Prop} {E : Prop} (w : World) (hgd : o.guard = none) (d : Nat) (hd : o.dst = some d) (f : FuncId) (args : List Operand) (ats : Array TypeId)
    (ho : o.op = .call { callee := .value (.func f), args := args.toArray, argTypes := ats }) (vs : List Value) (hv : args.map a.eval = vs)
    (hcf : (callFunc f vs.toArray).run Tryd.prog w = .ok (.enter f vs.toArray) w) (h : Calls Tryd.prog f vs.toArray w fun x w' => ∃ v, x = .returned v ∧ K (a.put (some d) v) w') : if Region.wanted o (yielded ops a.tmps) = true then Oper.wp Tryd.prog o a w K Q else E := by
  rw [← hd] at h
  exact step_call w hgd f args ats ho vs hv hcf h
theorem step_append_d {ops : Array Oper} {o : Oper} {a : Act} {K : Act → World → Prop} {Q : Exit → Act → World → Prop} {E : Prop} (w : World) (hgd : o.guard = none) (d : Nat) (hd : o.dst = some d) (s x : Operand) (t e tx : TypeId) (z : Value) (size bytes : Nat)
    (ho : o.op = .call { callee := .builtin .append, args := #[s, x], argTypes := #[t, tx] }) (ht : Tryd.prog.underlying t = some (.slice e)) (hinfo : (Tryd.prog.info? e).map (fun i => (i.zero, i.size, i.bytes)) = some (some z, size, bytes)) (hzs : z.cells.size = size)
    (base : Nat) (v : Value) (n : Nat) (xs : List Value) (hs : a.eval s = v) (hown : w.ownsRow base e size v n xs)
    (y : Value) (m : Nat) (news : List Value) (hx : a.eval x = y) (r : Src Tryd.prog size tx y m news w)
    (h63 : n + m ≤ maxLen) (hbytes : ((n + m) + (n + m) / 4 + 192) * bytes ≤ 281474976710656) (hbase : base ≤ w.heap.size)
    (h : ∀ p c w', Hid (w'.ownsRow base e size (.slice p (n + m) c) (n + m) (xs ++ news)) → Hid (w.grownBy w' v.ownBlock) → Hid ((Value.slice p (n + m) c).ownBlock = v.ownBlock ∨ ((Value.slice p (n + m) c).ownBlock = some w.heap.size ∧ w.grownBy w' none)) → K (a.put (some d) (.slice p (n + m) c)) w') : if Region.wanted o (yielded ops a.tmps) = true then Oper.wp Tryd.prog o a w K Q else E := by
  rw [← hd] at h
  exact step_append_all w hgd s x t e tx z size bytes ho ht hinfo hzs base v n xs hs hown y m news hx r h63 hbytes hbase h
theorem slice_to {w : World} {base : Nat} {a : Option Addr} {len cap : Nat} {xs : List Value} (h : w.ownsRow base 5 1 (.slice a len cap) len xs) (mn : Nat) (hm : mn ≤ len) (W : World) : (Instr.slice 41 (.slice a len cap) none (some (.int .i64 (mn : Int))) none).run Tryd.prog W = .ok (.slice a mn cap) W := by
  rcases h.2 with ⟨e0, e1⟩ | ⟨g, cap', cur, e0, _, _, h1, h2, _⟩
  · simp at e0
    obtain ⟨rfl, rfl, rfl⟩ := e0
    have : mn = 0 := by omega
    subst this
    simp [Instr.slice, Instr.sliceBounds, Instr.sliceBound, asIntOf, run_underlying Tryd.underlying41]
  · simp at e0
    obtain ⟨rfl, rfl⟩ := e0
    unfold maxLen at h2
    have h3 : mn ≤ cap := by omega
    simp [Instr.slice, Instr.sliceBounds, Instr.sliceBound, asIntOf, run_underlying Tryd.underlying41, h3]
    intro _
    rw [Addr.add_none]
theorem Reads.off {S : Nat → Prop} {w w' : World} {a : Option Addr} {len cap : Nat} {l : List Nat} (r : Reads w a len cap l) (h : Kept S w w') (hn : ∀ k, blockOf a = some k → ¬ S k) : Reads w' a len cap l := r.kept h (fun p hp => hn _ (by rw [hp]; rfl))
theorem rep_bytes (n k : Nat) : ∀ c ∈ List.replicate n (k % 256), c < 256 := fun c hc => by
  rw [(List.mem_replicate.1 hc).2]
  omega
theorem made_bytes {w : World} {base b : Nat} (hb : base ≤ b) (l : List Nat) (hl : l.length ≤ 66000) (cs : Array Value) (hc : cs = (cellsOf l).toArray) (h : w.heap[b]? = some (.cells cs 5 (0, 0))) : w.ownsRow base 5 1 (.slice (some ⟨b, 0, none⟩) l.length l.length) l.length (cellsOf l) := by
  subst hc
  refine ⟨by rw [cellsOf_length]; omega, .inr ⟨b, l.length, _, rfl, hb, h, Nat.le_refl _, by unfold maxLen; omega, by simp [cellsOf_length], ?_⟩⟩
  rw [List.take_of_length_le (by simp [cellsOf_length])]
theorem src_byte (w : World) (v : Nat) (hv : v < 256) : Src Tryd.prog 1 41 (.slice (some ⟨w.heap.size, 0, none⟩) 1 1) 1 (cellsOf [v]) (w.alloc (.cells #[.int .u8 (v : Int)] 5)) := by
  have o := made_bytes (Nat.le_refl w.heap.size) [v] (by simp) #[.int .u8 (v : Int)] rfl (alloc_new w (.cells #[.int .u8 (v : Int)] 5))
  obtain ⟨a, c, e, r, _⟩ := owns_reads o (fun c hc => by rw [List.mem_singleton.1 hc]; exact hv)
  simp at e
  obtain ⟨rfl, rfl⟩ := e
  exact r.src
theorem step_call_g {ops : Array Oper} {o : Oper} {a : Act} {K : Act → World → Prop} {Q : Exit → Act → World → Prop} {E : Prop} (w : World) (hw : Region.wanted o (yielded ops a.tmps) = true) (d : Nat) (hd : o.dst = some d) (f : FuncId) (args : List Operand) (ats : Array TypeId)
    (ho : o.op = .call { callee := .value (.func f), args := args.toArray, argTypes := ats }) (vs : List Value) (hv : args.map a.eval = vs)
    (hcf : (callFunc f vs.toArray).run Tryd.prog w = .ok (.enter f vs.toArray) w) (h : Calls Tryd.prog f vs.toArray w fun x w' => ∃ v, x = .returned v ∧ K (a.put (some d) v) w') : if Region.wanted o (yielded ops a.tmps) = true then Oper.wp Tryd.prog o a w K Q else E := by
  rw [if_pos hw]
  rw [← hd] at h
  unfold Oper.wp execOp
  simp [ho, resolve, invoke, hv, hcf, Act.eval, Deferred.ofValue]
  refine h.mono ?_
  rintro x w' ⟨v, rfl, hk⟩
  exact hk
theorem step_append_g {ops : Array Oper} {o : Oper} {a : Act} {K : Act → World → Prop} {Q : Exit → Act → World → Prop} {E : Prop} (w : World) (hw : Region.wanted o (yielded ops a.tmps) = true) (d : Nat) (hd : o.dst = some d) (s x : Operand) (t e tx : TypeId) (z : Value) (size bytes : Nat)
    (ho : o.op = .call { callee := .builtin .append, args := #[s, x], argTypes := #[t, tx] }) (ht : Tryd.prog.underlying t = some (.slice e)) (hinfo : (Tryd.prog.info? e).map (fun i => (i.zero, i.size, i.bytes)) = some (some z, size, bytes)) (hzs : z.cells.size = size)
    (base : Nat) (v : Value) (n : Nat) (xs : List Value) (hs : a.eval s = v) (hown : w.ownsRow base e size v n xs)
    (y : Value) (m : Nat) (news : List Value) (hx : a.eval x = y) (r : Src Tryd.prog size tx y m news w)
    (h63 : n + m ≤ maxLen) (hbytes : ((n + m) + (n + m) / 4 + 192) * bytes ≤ 281474976710656) (hbase : base ≤ w.heap.size)
    (h : ∀ p c w', Hid (w'.ownsRow base e size (.slice p (n + m) c) (n + m) (xs ++ news)) → Hid (w.grownBy w' v.ownBlock) → Hid ((Value.slice p (n + m) c).ownBlock = v.ownBlock ∨ ((Value.slice p (n + m) c).ownBlock = some w.heap.size ∧ w.grownBy w' none)) → K (a.put (some d) (.slice p (n + m) c)) w') : if Region.wanted o (yielded ops a.tmps) = true then Oper.wp Tryd.prog o a w K Q else E := by
  rw [if_pos hw]
  rw [← hd] at h
  obtain ⟨i, hi, hz, hsize, hby⟩ := info_parts hinfo
  obtain ⟨v', w', hr, h2, h3, _, h5⟩ := append_all (P := Tryd.prog) w base t tx o.type e i z size bytes ht hi hz hsize hby hzs v n xs hown y m news r h63 hbytes hbase
  unfold Oper.wp execOp
  simp only [ho, resolve, invoke, builtin, Sem.run_bind, Sem.run_pure, Result.andThen_ok, List.map_toArray, List.map_cons, List.map_nil, hs, hx, hr]
  obtain ⟨p, c, rfl⟩ : ∃ p c, v' = .slice p (n + m) c := by
    rcases h2.2 with ⟨rfl, e⟩ | ⟨g, cap, cur, rfl, _⟩
    · exact ⟨none, 0, by rw [e]⟩
    · exact ⟨_, _, rfl⟩
  exact h p c w' h2 h3 h5

end Go.Proofs.YtbangbobfeflcaaDoor
