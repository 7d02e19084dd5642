import Derived.Test.YtbangbobfeflcaaGreatDoorHOpK
import Derived.Test.YtbangbobfeflcaaGreatDoorHCheck
import Derived.Test.YtbangbobfeflcaaGreatDoorHPure
import Derived.Laws.Rows
import Derived.Deep.Cut
import Derived.Deep.RegionHeldLaw
namespace Go.Proofs.YtbangbobfeflcaaGreatDoor
open Go.RowKit 

def intsN (R : List Nat) : List Value := R.map fun r : Nat => .int .i64 (r : Int)
theorem intsN_append (a b : List Nat) : intsN (a ++ b) = intsN a ++ intsN b := by unfold intsN; rw [List.map_append]
theorem Tryz.info3c : (Tryz.prog.info? 3).map (fun i => (i.zero, i.size, i.bytes)) = some (some (.int .i64 0), 1, 8) := by kernel_rfl
theorem src_one {w : World} {b i : Nat} (h : w.heap[b]? = some (.cells #[.int .i64 (i : Int)] 3 (0, 0))) : Src Tryz.prog 1 70 (.slice (some ⟨b, 0, none⟩) 1 1) 1 (intsN [i]) w :=
  Src.ofSlice w Tryz.underlying70 ⟨b, 0, none⟩ 1 1 (intsN [i]) rfl (fun j u hj => by
    rw [Addr.add_none, Nat.zero_add]
    refine cell_blk h j ?_
    have e : intsN [i] = [.int .i64 (i : Int)] := rfl
    rw [e] at hj
    simpa using hj) (fun v hv => by
    have e : intsN [i] = [.int .i64 (i : Int)] := rfl
    rw [e] at hv
    simp at hv
    rw [hv]
    rfl)
theorem hOper (e : Ev) (w : World) : Calls Tryz.prog 44 #[.agg #[.int .i64 e.kind, .int .i64 e.client, .int .i64 e.op, .bool e.put, .string e.key, .slice e.va e.vn e.vc, .int .i64 e.st, .int .i64 e.tx, .int .i64 e.ty]] w fun o w' => o = .returned (.agg #[.int .i64 e.client, .int .i64 e.op]) ∧ Kept (fun _ => False) w w' := by
  go_enter Tryz.func44, Tryz.ntmps44
  go_wp2_with fail
  refine bodyPost_ret (results_cell_row rfl _ _ (w.heap.size + 1) 78 #[.int .i64 e.client, .int .i64 e.op] (0, 0) _ rfl ?_ Tryz.underlying78 rfl (by kernel_rfl)) rfl ?_
  · have := alloc_new (w.alloc (.cells #[.int .i64 e.kind, .int .i64 e.client, .int .i64 e.op, .bool e.put, .string e.key, .slice e.va e.vn e.vc, .int .i64 e.st, .int .i64 e.tx, .int .i64 e.ty] 39)) (.cells #[.int .i64 e.client, .int .i64 e.op] 78)
    rw [alloc_size] at this
    exact this
  · exact ⟨rfl, ((Kept.refl _ _).alloc _).alloc _⟩
/-- append to a row of numbers, at a step of a region that draws. -/
theorem step_append_ints {ops : Array Oper} {o : Oper} {a : Act} {K : Act → World → Prop} {Q : Exit → Act → World → Prop} {E : Prop} (w : World) (hgd : o.guard = none) (s x : Operand)
    (ho : o.op = .call { callee := .builtin .append, args := #[s, x], argTypes := #[70, 70] })
    (base : Nat) (v : Value) (n : Nat) (xs : List Value) (hs : a.eval s = v) (hown : w.ownsRow base 3 1 v n xs)
    (y : Value) (m : Nat) (news : List Value) (hx : a.eval x = y) (r : Src Tryz.prog 1 70 y m news w)
    (h63 : n + m ≤ maxLen) (hbytes : ((n + m) + (n + m) / 4 + 192) * 8 ≤ 281474976710656) (hbase : base ≤ w.heap.size)
    (h : ∀ p c w', Hid (w'.ownsRow base 3 1 (.slice p (n + m) c) (n + m) (xs ++ news)) → Hid (w.grownBy w' v.ownBlock) → Hid ((Value.slice p (n + m) c).ownBlock = v.ownBlock ∨ ((Value.slice p (n + m) c).ownBlock = some w.heap.size ∧ w.grownBy w' none)) → K (a.put o.dst (.slice p (n + m) c)) w') : if Region.wanted o (yielded ops a.tmps) = true then Oper.wp Tryz.prog o a w K Q else E := by
  have hw : Region.wanted o (yielded ops a.tmps) = true := by simp [Region.wanted, hgd]
  rw [if_pos hw]
  obtain ⟨i, hi, hz, hsize, hby⟩ := info_parts Tryz.info3c
  obtain ⟨v', w', hr, h2, h3, _, h5⟩ := append_all (P := Tryz.prog) w base 70 70 o.type 3 i (.int .i64 0) 1 8 Tryz.underlying70 hi hz hsize hby rfl v n xs hown y m news r h63 hbytes hbase
  unfold Oper.wp execOp
  simp only [ho, resolve, invoke, builtin, Sem.run_bind, Sem.run_pure, Result.andThen_ok, List.map_toArray, List.map_cons, List.map_nil, hs, hx, hr]
  obtain ⟨p, c, rfl⟩ : ∃ p c, v' = .slice p (n + m) c := by
    rcases h2.2 with ⟨rfl, e⟩ | ⟨g, cap, cur, rfl, _⟩
    · exact ⟨none, 0, by rw [e]⟩
    · exact ⟨_, _, rfl⟩
  exact h p c w' h2 h3 h5
/-- 'm[k] = v', at a step of a region that draws. -/
theorem step_put {κ ε : Type} {T K E : TypeId} {kv : κ → Value} {kl : κ → Lit} {KF : κ → Prop} {ev : ε → Value} {z : ε} {RD : Value → Option (DataW Value × List MemPlace)} [DecidableEq κ] (X : MK T K E kv kl KF ev z RD) (w : World) {ops : Array Oper} {o : Oper} {a : Act} {K' : Act → World → Prop} {Q : Exit → Act → World → Prop} {E' : Prop} (hg : o.guard = none) (m x v : Operand) (hop : o.op = Op.mapUpdate T m x v) (b n : Nat) (M : κ → Option ε)
    (hm : a.eval m = .map (some b)) (h : TM K kl KF ev RD w b n M) (hn : n < maxLen) (k : κ) (hk : KF k) (e : ε) (hx : a.eval x = kv k) (hv : a.eval v = ev e)
    (hK : ∀ w', Hid (TM K kl KF ev RD w' b (nput n M k) (upd M k e)) → Hid (Kept (fun j => j = b) w w') → K' (a.put o.dst undef) w') : if Region.wanted o (yielded ops a.tmps) = true then Oper.wp Tryz.prog o a w K' Q else E' := by
  have hw : Region.wanted o (yielded ops a.tmps) = true := by simp [Region.wanted, hg]
  rw [if_pos hw]
  obtain ⟨D, h, s, e0⟩ := h
  obtain ⟨w', hrun, r1, r2⟩ := h.update X.law X.und hn (X.key k hk) (X.rd e)
  unfold Oper.wp
  simp [execOp, hop, hm, hx, hv, hrun, Result.andThen]
  exact hK w' (TM.put X h s e0 hk e r1) ((Kept.refl _ w).grown r2 (fun j _ q => by simp at q; exact q.symm))
/-- The places by operation, in memory, of the first i events. -/
structure GS (w : World) (es : List Ev) (mb i : Nat) (wr : World) : Prop where
  ok : ∃ (n : Nat) (Mp : Int × Int → Option Sl), TM 78 opL opF Sl.v RSl wr mb n Mp ∧ n ≤ i ∧ (∀ k, Mp k = none → placesE (es.take i) k = []) ∧ (∀ k s, Mp k = some s → wr.ownsRow w.heap.size 3 1 (.slice s.p s.n s.c) s.n (intsN (placesE (es.take i) k)) ∧ s.n = (placesE (es.take i) k).length ∧ ¬ blockOf s.p = some mb ∧ 0 < s.n) ∧ (∀ k k' s s' j, Mp k = some s → Mp k' = some s' → k ≠ k' → blockOf s.p = some j → ¬ blockOf s'.p = some j)
  kept : Kept (fun _ => False) w wr
  mb : w.heap.size ≤ mb ∧ mb < wr.heap.size
end Go.Proofs.YtbangbobfeflcaaGreatDoor
