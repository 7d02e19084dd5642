import Derived.Test.YtojfnehdanhgiaaFlight
import Derived.Deep.DeepCutAuto
namespace Go.Proofs.Ytojfnehdanhgiaa
open Go.RowKit

/-- A call of a Go function, at a step of a region that draws. -/
theorem enter29 (vs : Array Value) (w : World) : (callFunc 29 vs).run Try.prog w = .ok (.enter 29 vs) w := by kernel_rfl
theorem step_call {ops : Array Oper} {o : Oper} {a : Act} {K : Act → World → Prop} {Q : Exit → Act → World → Prop} {E : Prop} (w : World) (hgd : o.guard = none) (f : FuncId) (args : List Operand) (ats : Array TypeId)
    (ho : o.op = .call { callee := .value (.func f), args := args.toArray, argTypes := ats }) (vs : List Value) (hv : args.map a.eval = vs)
    (hcf : (callFunc f vs.toArray).run Try.prog w = .ok (.enter f vs.toArray) w) (h : Calls Try.prog f vs.toArray w fun x w' => ∃ v, x = .returned v ∧ K (a.put o.dst v) w') : if Region.wanted o (yielded ops a.tmps) = true then Oper.wp Try.prog o a w K Q else E := by
  have hw : Region.wanted o (yielded ops a.tmps) = true := by simp [Region.wanted, hgd]
  rw [if_pos hw]
  unfold Oper.wp execOp
  simp [ho, resolve, invoke, hv, hcf, Act.eval, Deferred.ofValue]
  refine h.mono ?_
  rintro x w' ⟨v, rfl, hk⟩
  exact hk
/-- What comes of an append of one datagram and the store of the longer list. -/
theorem IsNet.more {ty base : Nat} {w w1 w2 : World} {C : Nat} {q : Option Addr} {len cap : Nat} {R : List Ent} (h : IsNet ty base w C q len cap R) (K : Kept (fun _ => False) w w1) {e : Ent} (ge : Good w.heap.size w1 e) (hbase : base ≤ w.heap.size) {p : Option Addr} {c : Nat}
    (ho : w2.ownsRow base 39 6 (.slice p (len + 1) c) (len + 1) (rcells R ++ e.cells)) (hg : w1.grownBy w2 (Value.slice q len cap).ownBlock) (hn : (Value.slice p (len + 1) c).ownBlock = (Value.slice q len cap).ownBlock ∨ ((Value.slice p (len + 1) c).ownBlock = some w1.heap.size ∧ w1.grownBy w2 none)) :
    w2.heap[C]? = some (.cells #[.slice q len cap] ty (0, 0)) ∧ IsNet ty base (w2.setCell ⟨C, 0, none⟩ (.slice p (len + 1) c)) C p (len + 1) c (R ++ [e]) ∧ Moved w (w2.setCell ⟨C, 0, none⟩ (.slice p (len + 1) c)) C q p := by
  rw [blockOf_own] at hg hn
  rw [blockOf_own] at hn
  have h1 := h.kept0 K
  have K2 : Kept (fun k => blockOf q = some k) w1 w2 := (Kept.refl _ _).grown hg (fun k _ e => e)
  have b2 := K2.get h1.blk (fun e => h1.apart e)
  have K3 : Kept (fun k => k = C) w2 (w2.setCell ⟨C, 0, none⟩ (.slice p (len + 1) c)) := (Kept.refl (fun k => k = C) w2).setCell (p := ⟨C, 0, none⟩) (fun _ => rfl) _
  have nC : NotData w2 C := fun cs f e => by rw [b2] at e; simp at e; exact h.t5 e.2.1
  have pC : ∀ k, blockOf p = some k → k ≠ C := fun k hk e => by
    obtain ⟨cs, hc⟩ := own_type ho k hk
    rw [e, b2] at hc
    simp at hc
    exact h.t39 hc.2
  have tr : ∀ f, Good base w1 f → Good base (w2.setCell ⟨C, 0, none⟩ (.slice p (len + 1) c)) f := fun f gf =>
    (gf.kept K2 (fun k _ e => h1.list.notdata k e)).kept K3 (fun k _ e => by rw [e]; exact nC)
  refine ⟨b2, ⟨set_heap b2 0 _, ⟨?_, fun f hf => ?_⟩, h.low, h.t5, h.t39⟩, ⟨?_, fun k hk => ?_⟩⟩
  · rw [rcells_append, rcells_one']
    exact K3.owns ho (fun k hk => pC k (by rw [← blockOf_own]; exact hk))
  · rcases List.mem_append.1 hf with m | m
    · exact tr f (h1.list.good f m)
    · rw [List.mem_singleton.1 m]
      exact tr e (ge.mono hbase)
  · exact ((K.mono (fun _ _ q => q.elim)).trans (K2.mono (S' := fun k => k = C ∨ blockOf q = some k) (fun k _ e => .inr e)) (fun _ _ e => e)).setCell (p := ⟨C, 0, none⟩) (fun _ => .inl rfl) _
  · rcases hn with e | ⟨e, _⟩
    · exact .inl (by rw [← e]; exact hk)
    · rw [e] at hk; simp at hk; exact .inr (by have := K.size; omega)
/-- The six cells of one datagram, for an append. -/
theorem src_one {w : World} {b : Nat} {e : Ent} (h : w.heap[b]? = some (.cells #[.int .i64 e.p.fk, .int .i64 e.p.fi, .int .i64 e.p.tk, .int .i64 e.p.ti, .slice e.a e.len e.cap, .bool e.p.lost] 39 (0, 0))) : Src Try.prog 6 27 (.slice (some ⟨b, 0, none⟩) 1 1) 1 e.cells w :=
  Src.ofSlice w Try.underlying27 ⟨b, 0, none⟩ 1 1 e.cells rfl (fun j u hj => by
    rw [Addr.add_none, Nat.zero_add, cell_of_row w b j _ 39 (0, 0) h]
    have : e.cells = (#[.int .i64 e.p.fk, .int .i64 e.p.fi, .int .i64 e.p.tk, .int .i64 e.p.ti, .slice e.a e.len e.cap, .bool e.p.lost] : Array Value).toList := rfl
    rw [this] at hj
    simpa using hj) (by have := rcells_one [e]; rw [rcells_one'] at this; exact this)
set_option maxRecDepth 100000 in
set_option maxHeartbeats 1000000 in
/-- Send of one that may be sent. -/
theorem send_ok (base C : Nat) (q : Option Addr) (len cap : Nat) (R : List Ent) (w : World) (h : IsNet 67 base w C q len cap R) (hbase : base ≤ w.heap.size) (hb : len + 1 ≤ Big)
    (fk fi tk ti : Int) (a : Option Addr) (dl dc : Nat) (lost : Bool) (l : List Nat) (r : Reads w a dl dc l) (h1 : isN fk fi = true) (h2 : isN tk ti = true) (h3 : dl ≤ 66000) :
    Calls Try.prog 27 #[.pointer (some ⟨C, 0, none⟩), .agg #[.int .i64 fk, .int .i64 fi, .int .i64 tk, .int .i64 ti, .slice a dl dc, .bool lost]] w fun x w' => ∃ p c e, x = .returned (.int .i64 0) ∧ e.p = ⟨fk, fi, tk, ti, l, lost⟩ ∧ IsNet 67 base w' C p (len + 1) c (R ++ [e]) ∧ Moved w w' C q p := by
  have H : Hid (IsNet 67 base w C q len cap R ∧ base ≤ w.heap.size ∧ len + 1 ≤ Big ∧ Reads w a dl dc l) := ⟨h, hbase, hb, r⟩
  have hm := big_max hb
  obtain ⟨hr1, hr2⟩ := own_room h.list.own
  unfold maxLen at hm hr2
  have g3 : ¬ (66000 : Int) < (dl : Int) := by omega
  have lC := h.lt
  clear h hb hbase r
  go_enter Try.func27, Try.ntmps27
  go_wp2_with fail
  have B0 : Hid (Kept (fun _ => False) w (w.alloc (.cells #[.int .i64 fk, .int .i64 fi, .int .i64 tk, .int .i64 ti, .slice a dl dc, .bool lost] 39)) ∧ Box (w.alloc (.cells #[.int .i64 fk, .int .i64 fi, .int .i64 tk, .int .i64 ti, .slice a dl dc, .bool lost] 39)) w.heap.size (.int .i64 fk) (.int .i64 fi) (.int .i64 tk) (.int .i64 ti) (.slice a dl dc) (.bool lost)) := ⟨alloc_kept0 _ _, alloc_new _ _⟩
  refine (isNode fk fi _).mono ?_
  rintro x w1 ⟨rfl, K1⟩
  have B1 : Hid (Kept (fun _ => False) w w1 ∧ Box w1 w.heap.size (.int .i64 fk) (.int .i64 fi) (.int .i64 tk) (.int .i64 ti) (.slice a dl dc) (.bool lost)) := ⟨B0.out.1.trans K1 (fun _ _ q => q), B0.out.2.kept K1 (fun q => q)⟩
  obtain ⟨e1, e2, e3, e4, e5, e6, _⟩ := cell6 _ _ _ _ _ _ _ _ B1.out.2
  clear K1 B0
  go_wp2_with fail
  refine (isNode tk ti _).mono ?_
  rintro x w2 ⟨rfl, K2⟩
  have B2 : Hid (Kept (fun _ => False) w w2 ∧ Box w2 w.heap.size (.int .i64 fk) (.int .i64 fi) (.int .i64 tk) (.int .i64 ti) (.slice a dl dc) (.bool lost)) := ⟨B1.out.1.trans K2 (fun _ _ q => q), B1.out.2.kept K2 (fun q => q)⟩
  clear e1 e2 e3 e4 e5 e6 K2 B1
  obtain ⟨e1, e2, e3, e4, e5, e6, _⟩ := cell6 _ _ _ _ _ _ _ _ B2.out.2
  have cC := (H.out.1.kept0 B2.out.1).cell
  have D2 : Hid (Kept (fun _ => False) w w2.drew) := B2.out.1.drew
  go_upto_region 7 with fail
  go_region_law
    (first
      | (refine step_call _ (by rfl) 29 [.tmp 26] _ (by rfl) [.agg #[.int .i64 fk, .int .i64 fi, .int .i64 tk, .int .i64 ti, .slice a dl dc, .bool lost]] (by rfl) (enter29 _ _) ((second fk fi tk ti a dl dc lost l w2.drew (H.out.2.2.2.kept' D2.out (fun _ _ q => q)) (by omega)).mono ?_); rintro x w3 ⟨p3, c3, rfl, o3, K3⟩; refine ⟨_, rfl, ?_⟩; have k3 := K3.cell cC (fun q => q); have lt3 : C < w3.heap.size := World.block_lt_of_cell? w3 _ k3
         have Z3 : Hid (Kept (fun _ => False) w (w3.alloc (.cells #[.int .i64 fk, .int .i64 fi, .int .i64 tk, .int .i64 ti, .slice p3 dl c3, .bool lost] 39)) ∧ (w3.alloc (.cells #[.int .i64 fk, .int .i64 fi, .int .i64 tk, .int .i64 ti, .slice p3 dl c3, .bool lost] 39)).heap[w3.heap.size]? = some (.cells #[.int .i64 fk, .int .i64 fi, .int .i64 tk, .int .i64 ti, .slice p3 dl c3, .bool lost] 39 (0, 0)) ∧ Good w.heap.size (w3.alloc (.cells #[.int .i64 fk, .int .i64 fi, .int .i64 tk, .int .i64 ti, .slice p3 dl c3, .bool lost] 39)) ⟨⟨fk, fi, tk, ti, l, lost⟩, p3, dl, c3⟩) := ⟨(D2.out.trans K3 (fun _ _ q => q)).alloc _, alloc_new _ _, Good.kept0 ⟨owns_mono o3 D2.out.size, H.out.2.2.2.bytes, h3⟩ (alloc_kept0 _ _)⟩
         clear o3 K3)
      | (refine step_append_all _ (by rfl) (.tmp 25) (.tmp 28) 27 39 27 _ 6 64 (by rfl) Try.underlying27 Try.info39 rfl base (.slice q len cap) len (rcells R) (by rfl) (H.out.1.kept0 Z3.out.1).list.own _ 1 (Ent.cells ⟨⟨fk, fi, tk, ti, l, lost⟩, p3, dl, c3⟩) (by rfl) (src_one Z3.out.2.1) (big_max H.out.2.2.1) (big_wide H.out.2.2.1) (Nat.le_trans H.out.2.1 Z3.out.1.size) ?_; intro p4 c4 w4 ho hg hn
         obtain ⟨b4, n4, m4⟩ := H.out.1.more Z3.out.1 Z3.out.2.2 H.out.2.1 ho.out hg.out hn.out
         have F4 : Hid (IsNet 67 base (w4.setCell ⟨C, 0, none⟩ (.slice p4 (len + 1) c4)) C p4 (len + 1) c4 (R ++ [⟨⟨fk, fi, tk, ti, l, lost⟩, p3, dl, c3⟩]) ∧ Moved w (w4.setCell ⟨C, 0, none⟩ (.slice p4 (len + 1) c4)) C q p4) := ⟨n4, m4⟩
         have k4 := cell_blk b4 0 (v := .slice q len cap) rfl
         have k5 := soft_blk b4 0
         clear b4 n4 m4 ho hg hn)
      | fail)
  all_goals (go_wp2_with fail; go_ret)
  all_goals exact ⟨p4, c4, _, rfl, rfl, F4.out⟩
/-- What Send answers. -/
def sendE (fk fi tk ti : Int) (dl : Nat) : Int := if isN fk fi = true ∧ isN tk ti = true then (if dl ≤ 66000 then 0 else 2) else 51
set_option maxRecDepth 100000 in
/-- Send of one that may not be sent. -/
theorem send_bad (C : Nat) (w : World) (fk fi tk ti : Int) (a : Option Addr) (dl dc : Nat) (lost : Bool) (hd : dl ≤ maxLen) (h : ¬ (isN fk fi = true ∧ isN tk ti = true ∧ dl ≤ 66000)) :
    Calls Try.prog 27 #[.pointer (some ⟨C, 0, none⟩), .agg #[.int .i64 fk, .int .i64 fi, .int .i64 tk, .int .i64 ti, .slice a dl dc, .bool lost]] w fun x w' => x = .returned (.int .i64 (sendE fk fi tk ti dl)) ∧ Kept (fun _ => False) w w' := by
  have B0 : Hid (Kept (fun _ => False) w (w.alloc (.cells #[.int .i64 fk, .int .i64 fi, .int .i64 tk, .int .i64 ti, .slice a dl dc, .bool lost] 39)) ∧ Box (w.alloc (.cells #[.int .i64 fk, .int .i64 fi, .int .i64 tk, .int .i64 ti, .slice a dl dc, .bool lost] 39)) w.heap.size (.int .i64 fk) (.int .i64 fi) (.int .i64 tk) (.int .i64 ti) (.slice a dl dc) (.bool lost)) := ⟨alloc_kept0 _ _, alloc_new _ _⟩
  unfold maxLen at hd
  cases h1 : isN fk fi with
  | false =>
    have E : Hid (sendE fk fi tk ti dl = 51) := by show sendE fk fi tk ti dl = 51; simp [sendE, h1]
    clear h
    go_enter Try.func27, Try.ntmps27
    go_wp2_with fail
    refine (isNode fk fi _).mono ?_
    rw [h1]
    rintro x w1 ⟨rfl, K1⟩
    have KK : Hid (Kept (fun _ => False) w w1) := B0.out.1.trans K1 (fun _ _ q => q)
    clear K1 B0
    go_wp2_with fail
    go_ret
    exact ⟨by rw [E.out]; rfl, KK.out⟩
  | true =>
    cases h2 : isN tk ti with
    | false =>
      have E : Hid (sendE fk fi tk ti dl = 51) := by show sendE fk fi tk ti dl = 51; simp [sendE, h2]
      clear h
      go_enter Try.func27, Try.ntmps27
      go_wp2_with fail
      refine (isNode fk fi _).mono ?_
      rw [h1]
      rintro x w1 ⟨rfl, K1⟩
      have B1 : Hid (Kept (fun _ => False) w w1 ∧ Box w1 w.heap.size (.int .i64 fk) (.int .i64 fi) (.int .i64 tk) (.int .i64 ti) (.slice a dl dc) (.bool lost)) := ⟨B0.out.1.trans K1 (fun _ _ q => q), B0.out.2.kept K1 (fun q => q)⟩
      obtain ⟨e1, e2, e3, e4, e5, e6, _⟩ := cell6 _ _ _ _ _ _ _ _ B1.out.2
      clear K1 B0
      go_wp2_with fail
      refine (isNode tk ti _).mono ?_
      rw [h2]
      rintro x w2 ⟨rfl, K2⟩
      have KK : Hid (Kept (fun _ => False) w w2) := B1.out.1.trans K2 (fun _ _ q => q)
      clear K2 B1
      go_wp2_with fail
      go_ret
      exact ⟨by rw [E.out]; rfl, KK.out⟩
    | true =>
      have h3 : ¬ dl ≤ 66000 := fun q => h ⟨h1, h2, q⟩
      have E : Hid (sendE fk fi tk ti dl = 2) := by show sendE fk fi tk ti dl = 2; simp [sendE, h1, h2, h3]
      have g3 : (66000 : Int) < (dl : Int) := by omega
      clear h h3
      go_enter Try.func27, Try.ntmps27
      go_wp2_with fail
      refine (isNode fk fi _).mono ?_
      rw [h1]
      rintro x w1 ⟨rfl, K1⟩
      have B1 : Hid (Kept (fun _ => False) w w1 ∧ Box w1 w.heap.size (.int .i64 fk) (.int .i64 fi) (.int .i64 tk) (.int .i64 ti) (.slice a dl dc) (.bool lost)) := ⟨B0.out.1.trans K1 (fun _ _ q => q), B0.out.2.kept K1 (fun q => q)⟩
      obtain ⟨e1, e2, e3, e4, e5, e6, _⟩ := cell6 _ _ _ _ _ _ _ _ B1.out.2
      clear K1 B0
      go_wp2_with fail
      refine (isNode tk ti _).mono ?_
      rw [h2]
      rintro x w2 ⟨rfl, K2⟩
      have KK : Hid (Kept (fun _ => False) w w2) := B1.out.1.trans K2 (fun _ _ q => q)
      obtain ⟨f1, f2, f3, f4, f5, f6, _⟩ := cell6 _ _ _ _ _ _ _ _ (B1.out.2.kept K2 (fun q => q))
      clear K2 B1 e1 e2 e3 e4 e5 e6
      go_wp2_with fail
      go_ret
      exact ⟨by rw [E.out]; rfl, KK.out⟩
set_option maxRecDepth 100000 in
theorem send_nil (w : World) (fk fi tk ti : Int) (a : Option Addr) (dl dc : Nat) (lost : Bool) :
    Calls Try.prog 27 #[.pointer none, .agg #[.int .i64 fk, .int .i64 fi, .int .i64 tk, .int .i64 ti, .slice a dl dc, .bool lost]] w fun x w' => x = .returned (.int .i64 0) ∧ Kept (fun _ => False) w w' := by
  go_enter Try.func27, Try.ntmps27
  go_wp2_with fail
  go_ret
  exact ⟨rfl, alloc_kept0 _ _⟩
end Go.Proofs.Ytojfnehdanhgiaa
