import Derived.Test.YtojfnehdanhgiaaUndB
namespace Go.Proofs.Ytojfnehdanhgiaa
open Go.RowKit

theorem get_alloc {w : World} {o' : Obj} {b : Nat} {o : Obj} (h : w.heap[b]? = some o) : (w.alloc o').heap[b]? = some o := (alloc_kept0 w o').get h (fun q => q)
theorem get_drew {w : World} {b : Nat} {o : Obj} (h : w.heap[b]? = some o) : w.drew.heap[b]? = some o := h
theorem drew_size (w : World) : w.drew.heap.size = w.heap.size := rfl
/-- The first append of two: onto an empty row, of a list; beside another list. -/
theorem after1 {w2 w17 w18 Y w19 : World} {x a : Nat} {p18 q p19 : Option Addr} {M c18 m c c19 : Nat} {R18 R : List Ent} (h2 : w2.heap.size ≤ w17.heap.size) (LR : IsL w2.heap.size w17 q m c R) (K : Kept (fun _ => False) w17 Y) (K18 : Kept (fun _ => False) w18 Y) (L18 : IsL x w18 p18 M c18 R18)
    (ha : Y.heap[a]? = some (.cells #[] 39 (0, 0))) (hb : w17.heap.size ≤ a) (hx : ∀ k, blockOf p18 = some k → k ≠ a)
    (ho : w19.ownsRow w17.heap.size 39 6 (.slice p19 m c19) m (rcells [] ++ rcells R)) (hg : Y.grownBy w19 (Value.slice (some ⟨a, 0, none⟩) 0 0).ownBlock) (hn : (Value.slice p19 m c19).ownBlock = (Value.slice (some ⟨a, 0, none⟩) 0 0).ownBlock ∨ ((Value.slice p19 m c19).ownBlock = some Y.heap.size ∧ Y.grownBy w19 none)) :
    Kept (fun _ => False) w17 w19 ∧ IsL x w19 p18 M c18 R18 ∧ IsL w2.heap.size w19 p19 m c19 R ∧ (∀ k, blockOf p19 = some k → w17.heap.size ≤ k ∧ blockOf p18 ≠ some k) ∧ (∀ b o, Y.heap[b]? = some o → b ≠ a → w19.heap[b]? = some o) := by
  obtain ⟨K19, Ka, G3, G4⟩ := grown_beside K hb (notdata39 ha) hg
  refine ⟨K19, G3 (L18.kept0 K18) hx, ⟨owns_mono (show w19.ownsRow w17.heap.size 39 6 (.slice p19 m c19) m (rcells R) from ho) h2, fun e he => (LR.good e he).kept0 K19⟩, fun k hk => ⟨(own_lt ho k hk).1, fun z => ?_⟩, fun b o h1 h3 => G4 h1 h3⟩
  rw [blockOf_own, hk] at hn
  rcases hn with e | ⟨e, _⟩
  · simp [Value.ownBlock] at e
    exact hx k z e
  · simp at e
    have := (own_lt L18.own k z).2
    have := K18.size
    omega
/-- The second append: of one datagram. -/
theorem after2 {w2 w17 w19 Z w20 : World} {x : Nat} {p18 p19 p20 : Option Addr} {M c18 m c19 c20 : Nat} {R18 R : List Ent} {e : Ent} (K : Kept (fun _ => False) w17 w19) (KZ : Kept (fun _ => False) w19 Z) (L18 : IsL x w19 p18 M c18 R18) (L19 : IsL w2.heap.size w19 p19 m c19 R) (hp : ∀ k, blockOf p19 = some k → w17.heap.size ≤ k ∧ blockOf p18 ≠ some k) (ge : Good w2.heap.size w17 e)
    (ho : w20.ownsRow w2.heap.size 39 6 (.slice p20 (m + 1) c20) (m + 1) (rcells R ++ e.cells)) (hg : Z.grownBy w20 (Value.slice p19 m c19).ownBlock) (hn : (Value.slice p20 (m + 1) c20).ownBlock = (Value.slice p19 m c19).ownBlock ∨ ((Value.slice p20 (m + 1) c20).ownBlock = some Z.heap.size ∧ Z.grownBy w20 none)) :
    Kept (fun _ => False) w17 w20 ∧ IsL x w20 p18 M c18 R18 ∧ IsL w2.heap.size w20 p20 (m + 1) c20 (R ++ [e]) := by
  have KZ17 := K.trans KZ (fun _ _ q => q)
  obtain ⟨L20, K2, _⟩ := L19.more KZ (ge.kept0 KZ17) ho hg hn
  refine ⟨KZ17.trans K2 (fun k hk s => by have := (hp k s).1; omega), (L18.kept0 KZ).kept K2 (fun k hk s => (hp k s).2 hk) (fun k _ s => (L19.kept0 KZ).notdata k s), L20⟩
theorem map_snoc {R : List Ent} {ps : List Pk} {e : Ent} (h : R.map Ent.p = ps) : (R ++ [e]).map Ent.p = ps ++ [e.p] := by rw [List.map_append, h]; rfl
theorem alloc_newD (w : World) (cs : Array Value) (t : TypeId) : (w.drew.alloc (.cells cs t)).heap[w.heap.size]? = some (.cells cs t (0, 0)) := alloc_new w.drew _
theorem alloc_newD2 (w : World) (o : Obj) (cs : Array Value) (t : TypeId) : ((w.drew.alloc o).alloc (.cells cs t)).heap[w.heap.size + 1]? = some (.cells cs t (0, 0)) := alloc_new2 w.drew o cs t
theorem step_call_d {ops : Array Oper} {o : Oper} {a : Act} {K : Act → World → Prop} {Q : Exit → Act → World → Prop} {E : Prop} (w : World) (hgd : o.guard = none) (d : Nat) (hd : o.dst = some d) (f : FuncId) (args : List Operand) (ats : Array TypeId)
    (ho : o.op = .call { callee := .value (.func f), args := args.toArray, argTypes := ats }) (vs : List Value) (hv : args.map a.eval = vs)
    (hcf : (callFunc f vs.toArray).run Try.prog w = .ok (.enter f vs.toArray) w) (h : Calls Try.prog f vs.toArray w fun x w' => ∃ v, x = .returned v ∧ K (a.put (some d) v) w') : if Region.wanted o (yielded ops a.tmps) = true then Oper.wp Try.prog o a w K Q else E := by
  rw [← hd] at h
  exact step_call w hgd f args ats ho vs hv hcf h
theorem step_append_d {ops : Array Oper} {o : Oper} {a : Act} {K : Act → World → Prop} {Q : Exit → Act → World → Prop} {E : Prop} (w : World) (hgd : o.guard = none) (d : Nat) (hd : o.dst = some d) (s x : Operand) (t e tx : TypeId) (z : Value) (size bytes : Nat)
    (ho : o.op = .call { callee := .builtin .append, args := #[s, x], argTypes := #[t, tx] }) (ht : Try.prog.underlying t = some (.slice e)) (hinfo : (Try.prog.info? e).map (fun i => (i.zero, i.size, i.bytes)) = some (some z, size, bytes)) (hzs : z.cells.size = size)
    (base : Nat) (v : Value) (n : Nat) (xs : List Value) (hs : a.eval s = v) (hown : w.ownsRow base e size v n xs)
    (y : Value) (m : Nat) (news : List Value) (hx : a.eval x = y) (r : Src Try.prog size tx y m news w)
    (h63 : n + m ≤ maxLen) (hbytes : ((n + m) + (n + m) / 4 + 192) * bytes ≤ 281474976710656) (hbase : base ≤ w.heap.size)
    (h : ∀ p c w', Hid (w'.ownsRow base e size (.slice p (n + m) c) (n + m) (xs ++ news)) → Hid (w.grownBy w' v.ownBlock) → Hid ((Value.slice p (n + m) c).ownBlock = v.ownBlock ∨ ((Value.slice p (n + m) c).ownBlock = some w.heap.size ∧ w.grownBy w' none)) → K (a.put (some d) (.slice p (n + m) c)) w') : if Region.wanted o (yielded ops a.tmps) = true then Oper.wp Try.prog o a w K Q else E := by
  rw [← hd] at h
  exact step_append_all w hgd s x t e tx z size bytes ho ht hinfo hzs base v n xs hs hown y m news hx r h63 hbytes hbase h
theorem within400 (x : Int) : ∃ y z : Int, ∃ i : Nat, x.tmod 400 = y ∧ IntKind.i64.wrap (y + 400) = z ∧ z.tmod 400 = (i : Int) ∧ i < 400 := within x 400 (by omega) (by omega)
theorem src_pk {w : World} {b : Nat} {e : Pk} {ap : Option Addr} {lp cp : Nat} (h : w.heap[b]? = some (.cells #[.int .i64 e.fk, .int .i64 e.fi, .int .i64 e.tk, .int .i64 e.ti, .slice ap lp cp, .bool e.lost] 39 (0, 0))) : Src Try.prog 6 27 (.slice (some ⟨b, 0, none⟩) 1 1) 1 (Ent.cells ⟨e, ap, lp, cp⟩) w := src_one (e := ⟨e, ap, lp, cp⟩) h
theorem same_M {b1 b2 : Nat} {q1 q2 : Option Addr} {m M c1 c2 : Nat} {R1 R2 : List Ent} {w : World} (hM : m + 1 = M) (h1 : IsL b1 w q1 M c1 R1) (h2 : IsL b2 w q2 (m + 1) c2 R2) (he : R1.map Ent.p = R2.map Ent.p) :
    Calls Try.prog 14 #[.slice q1 M c1, .slice q2 (m + 1) c2] w fun x w' => x = .returned (.bool true) ∧ Kept (fun _ => False) w w' := by
  subst hM
  exact same b1 b2 q1 q2 (m + 1) c1 c2 R1 R2 w h1 h2 he
theorem slice_to {w : World} {base : Nat} {a : Option Addr} {len cap : Nat} {xs : List Value} (h : w.ownsRow base 5 1 (.slice a len cap) len xs) (mn : Nat) (hm : mn ≤ len) (W : World) : (Instr.slice 30 (.slice a len cap) none (some (.int .i64 (mn : Int))) none).run Try.prog W = .ok (.slice a mn cap) W := by
  rcases h.2 with ⟨e0, e1⟩ | ⟨g, cap', cur, e0, _, _, h1, h2, _⟩
  · simp at e0
    obtain ⟨rfl, rfl, rfl⟩ := e0
    have : mn = 0 := by omega
    subst this
    simp [Instr.slice, Instr.sliceBounds, Instr.sliceBound, asIntOf, run_underlying Try.underlying30]
  · simp at e0
    obtain ⟨rfl, rfl⟩ := e0
    unfold maxLen at h2
    have h3 : mn ≤ cap := by omega
    simp [Instr.slice, Instr.sliceBounds, Instr.sliceBound, asIntOf, run_underlying Try.underlying30, h3]
    intro _
    rw [Addr.add_none]
end Go.Proofs.Ytojfnehdanhgiaa
