import Derived.Test.YtbangbobfeflcaaDoorHOpKJ
import Derived.Test.YtbangbobfeflcaaDoorHCheck
import Derived.Test.YtbangbobfeflcaaDoorHPure
import Derived.Laws.Rows
import Derived.Deep.Cut
import Derived.Deep.RegionHeldLaw
import Derived.BigQuiet
namespace Go.Proofs.YtbangbobfeflcaaDoor
open Go.RowKit 

def intsN (R : List Nat) : List Value := R.map fun r : Nat => .int .i64 (r : Int)
theorem intsN_append (a b : List Nat) : intsN (a ++ b) = intsN a ++ intsN b := by unfold intsN; rw [List.map_append]
theorem Tryd.info3c : (Tryd.prog.info? 3).map (fun i => (i.zero, i.size, i.bytes)) = some (some (.int .i64 0), 1, 8) := by kernel_rfl
theorem src_one {w : World} {b i : Nat} (h : w.heap[b]? = some (.cells #[.int .i64 (i : Int)] 3 (0, 0))) : Src Tryd.prog 1 77 (.slice (some ⟨b, 0, none⟩) 1 1) 1 (intsN [i]) w :=
  Src.ofSlice w Tryd.underlying77 ⟨b, 0, none⟩ 1 1 (intsN [i]) rfl (fun j u hj => by
    rw [Addr.add_none, Nat.zero_add]
    refine cell_blk h j ?_
    have e : intsN [i] = [.int .i64 (i : Int)] := rfl
    rw [e] at hj
    simpa using hj) (fun v hv => by
    have e : intsN [i] = [.int .i64 (i : Int)] := rfl
    rw [e] at hv
    simp at hv
    rw [hv]
    rfl)
theorem hOper (e : Ev) (w : World) : Calls Tryd.prog 23 #[.agg #[.int .i64 e.kind, .int .i64 e.client, .int .i64 e.op, .bool e.put, .string e.key, .slice e.va e.vn e.vc, .int .i64 e.st, .int .i64 e.tx, .int .i64 e.ty]] w fun o w' => o = .returned (.agg #[.int .i64 e.client, .int .i64 e.op]) ∧ Kept (fun _ => False) w w' := by
  go_enter Tryd.func23, Tryd.ntmps23
  go_wp2_with fail
  refine bodyPost_ret (results_cell_row rfl _ _ (w.heap.size + 1) 74 #[.int .i64 e.client, .int .i64 e.op] (0, 0) _ rfl ?_ Tryd.underlying74 rfl (by kernel_rfl)) rfl ?_
  · have := alloc_new (w.alloc (.cells #[.int .i64 e.kind, .int .i64 e.client, .int .i64 e.op, .bool e.put, .string e.key, .slice e.va e.vn e.vc, .int .i64 e.st, .int .i64 e.tx, .int .i64 e.ty] 45)) (.cells #[.int .i64 e.client, .int .i64 e.op] 74)
    rw [alloc_size] at this
    exact this
  · exact ⟨rfl, ((Kept.refl _ _).alloc _).alloc _⟩
/-- append to a row of numbers, at a step of a region that draws. -/
theorem step_append_ints {ops : Array Oper} {o : Oper} {a : Act} {K : Act → World → Prop} {Q : Exit → Act → World → Prop} {E : Prop} (w : World) (hgd : o.guard = none) (s x : Operand)
    (ho : o.op = .call { callee := .builtin .append, args := #[s, x], argTypes := #[77, 77] })
    (base : Nat) (v : Value) (n : Nat) (xs : List Value) (hs : a.eval s = v) (hown : w.ownsRow base 3 1 v n xs)
    (y : Value) (m : Nat) (news : List Value) (hx : a.eval x = y) (r : Src Tryd.prog 1 77 y m news w)
    (h63 : n + m ≤ maxLen) (hbytes : ((n + m) + (n + m) / 4 + 192) * 8 ≤ 281474976710656) (hbase : base ≤ w.heap.size)
    (h : ∀ p c w', Hid (w'.ownsRow base 3 1 (.slice p (n + m) c) (n + m) (xs ++ news)) → Hid (w.grownBy w' v.ownBlock) → Hid ((Value.slice p (n + m) c).ownBlock = v.ownBlock ∨ ((Value.slice p (n + m) c).ownBlock = some w.heap.size ∧ w.grownBy w' none)) → K (a.put o.dst (.slice p (n + m) c)) w') : if Region.wanted o (yielded ops a.tmps) = true then Oper.wp Tryd.prog o a w K Q else E := by
  have hw : Region.wanted o (yielded ops a.tmps) = true := by simp [Region.wanted, hgd]
  rw [if_pos hw]
  obtain ⟨i, hi, hz, hsize, hby⟩ := info_parts Tryd.info3c
  obtain ⟨v', w', hr, h2, h3, _, h5⟩ := append_all (P := Tryd.prog) w base 77 77 o.type 3 i (.int .i64 0) 1 8 Tryd.underlying77 hi hz hsize hby rfl v n xs hown y m news r h63 hbytes hbase
  unfold Oper.wp execOp
  simp only [ho, resolve, invoke, builtin, Sem.run_bind, Sem.run_pure, Result.andThen_ok, List.map_toArray, List.map_cons, List.map_nil, hs, hx, hr]
  obtain ⟨p, c, rfl⟩ : ∃ p c, v' = .slice p (n + m) c := by
    rcases h2.2 with ⟨rfl, e⟩ | ⟨g, cap, cur, rfl, _⟩
    · exact ⟨none, 0, by rw [e]⟩
    · exact ⟨_, _, rfl⟩
  exact h p c w' h2 h3 h5
/-- 'm[k] = v', at a step of a region that draws. -/
theorem step_put {κ ε : Type} {T K E : TypeId} {kv : κ → Value} {kl : κ → Lit} {KF : κ → Prop} {ev : ε → Value} {z : ε} {RD : Value → Option (DataW Value × List MemPlace)} [DecidableEq κ] (X : MK T K E kv kl KF ev z RD) (w : World) {ops : Array Oper} {o : Oper} {a : Act} {K' : Act → World → Prop} {Q : Exit → Act → World → Prop} {E' : Prop} (hg : o.guard = none) (m x v : Operand) (hop : o.op = Op.mapUpdate T m x v) (b n : Nat) (M : κ → Option ε)
    (hm : a.eval m = .map (some b)) (h : TM K kl KF ev RD w b n M) (hn : n < maxLen) (k : κ) (hk : KF k) (e : ε) (hx : a.eval x = kv k) (hv : a.eval v = ev e)
    (hK : ∀ w', Hid (TM K kl KF ev RD w' b (nput n M k) (upd M k e)) → Hid (Kept (fun j => j = b) w w') → K' (a.put o.dst undef) w') : if Region.wanted o (yielded ops a.tmps) = true then Oper.wp Tryd.prog o a w K' Q else E' := by
  have hw : Region.wanted o (yielded ops a.tmps) = true := by simp [Region.wanted, hg]
  rw [if_pos hw]
  obtain ⟨D, h, s, e0⟩ := h
  obtain ⟨w', hrun, r1, r2⟩ := h.update X.law X.und hn (X.key k hk) (X.rd e)
  unfold Oper.wp
  simp [execOp, hop, hm, hx, hv, hrun, Result.andThen]
  exact hK w' (TM.put X h s e0 hk e r1) ((Kept.refl _ w).grown r2 (fun j _ q => by simp at q; exact q.symm))
/-- The places by operation, in memory, of the first i events. -/
structure GS (w : World) (es : List Ev) (mb i : Nat) (wr : World) : Prop where
  ok : ∃ (n : Nat) (Mp : Int × Int → Option Sl), TM 74 opL opF Sl.v RSl wr mb n Mp ∧ n ≤ i ∧ (∀ k, Mp k = none → placesE (es.take i) k = []) ∧ (∀ k s, Mp k = some s → wr.ownsRow w.heap.size 3 1 (.slice s.p s.n s.c) s.n (intsN (placesE (es.take i) k)) ∧ s.n = (placesE (es.take i) k).length ∧ ¬ blockOf s.p = some mb ∧ 0 < s.n) ∧ (∀ k k' s s' j, Mp k = some s → Mp k' = some s' → k ≠ k' → blockOf s.p = some j → ¬ blockOf s'.p = some j)
  kept : Kept (fun _ => False) w wr
  mb : w.heap.size ≤ mb ∧ mb < wr.heap.size
end Go.Proofs.YtbangbobfeflcaaDoor

namespace Go.Proofs.YtbangbobfeflcaaDoor
open Go.RowKit 

theorem Kept.own {w w' w'' : World} {S : Nat → Prop} (h : Kept (fun _ => False) w w') (k : Kept S w' w'') (hs : ∀ b, S b → w.heap.size ≤ b) : Kept (fun _ => False) w w'' := h.trans k (fun j hj z => by have := hs j z; omega)
theorem GS.step {w wr Y w9 w10 : World} {es : List Ev} {mb i n : Nat} {Mp : Int × Int → Option Sl} {e : Ev} {s : Sl} {p9 : Option Addr} {c9 : Nat} (hn : n ≤ i) (h1 : ∀ k, Mp k = none → placesE (es.take i) k = []) (h2 : ∀ k s, Mp k = some s → wr.ownsRow w.heap.size 3 1 (.slice s.p s.n s.c) s.n (intsN (placesE (es.take i) k)) ∧ s.n = (placesE (es.take i) k).length ∧ ¬ blockOf s.p = some mb ∧ 0 < s.n) (h3 : ∀ k k' s s' j, Mp k = some s → Mp k' = some s' → k ≠ k' → blockOf s.p = some j → ¬ blockOf s'.p = some j)
    (K0 : Kept (fun _ => False) w wr) (hmb : w.heap.size ≤ mb ∧ mb < wr.heap.size) (KY : Kept (fun _ => False) wr Y) (he : es[i]? = some e) (hs : s = (Mp (keyE e)).getD ⟨none, 0, 0⟩)
    (ho : w9.ownsRow w.heap.size 3 1 (.slice p9 (s.n + 1) c9) (s.n + 1) (intsN (placesE (es.take i) (keyE e)) ++ intsN [i])) (hg : Y.grownBy w9 (Value.slice s.p s.n s.c).ownBlock) (hn9 : (Value.slice p9 (s.n + 1) c9).ownBlock = (Value.slice s.p s.n s.c).ownBlock ∨ ((Value.slice p9 (s.n + 1) c9).ownBlock = some Y.heap.size ∧ Y.grownBy w9 none))
    (tm : TM 74 opL opF Sl.v RSl w10 mb (nput n Mp (keyE e)) (upd Mp (keyE e) ⟨p9, s.n + 1, c9⟩)) (KT : Kept (fun j => j = mb) w9 w10) : GS w es mb (i + 1) w10 := by
  have hil := (List.getElem?_eq_some_iff.1 he).1
  have et : es.take (i + 1) = es.take i ++ [e] := by rw [List.take_add_one, he]; rfl
  have tl : (es.take i).length = i := by rw [List.length_take]; omega
  have KG : Kept (fun j => blockOf s.p = some j) Y w9 := (Kept.refl _ Y).grown hg (fun j _ z => by rw [blockOf_own] at z; exact z)
  rw [blockOf_own, blockOf_own] at hn9
  have sY := KY.size
  have sG := KG.size
  have sT := KT.size
  have sn : s.n = (placesE (es.take i) (keyE e)).length ∧ ¬ blockOf s.p = some mb ∧ ∀ j, blockOf s.p = some j → Mp (keyE e) = some s := by
    cases hq : Mp (keyE e) with
    | none =>
      rw [hq] at hs
      rw [hs, h1 _ hq]
      exact ⟨rfl, fun z => (by cases z), fun j z => (by cases z)⟩
    | some s' =>
      rw [hq] at hs
      have hs : s = s' := hs
      rw [hs]
      exact ⟨(h2 _ _ hq).2.1, (h2 _ _ hq).2.2.1, fun _ _ => rfl⟩
  have p9b : ∀ j, blockOf p9 = some j → (blockOf s.p = some j) ∨ j = Y.heap.size := by
    intro j z
    rcases hn9 with q | ⟨q, _⟩
    · left
      rw [← q]
      exact z
    · right
      rw [q] at z
      exact (Option.some.inj z).symm
  have p9mb : ¬ blockOf p9 = some mb := fun z => by
    rcases p9b mb z with q | q
    · exact sn.2.1 q
    · omega
  refine ⟨⟨_, _, tm, ?_, fun k hk => ?_, fun k t hk => ?_, fun k k' t t' j hk hk' ne z y => ?_⟩, ?_, hmb.1, by omega⟩
  · unfold nput
    split <;> omega
  · unfold upd at hk
    split at hk
    · cases hk
    · rename_i ne
      rw [et, places_snoc, if_neg (fun z => ne z.symm)]
      exact h1 k hk
  · unfold upd at hk
    split at hk
    · rename_i ek
      have ev := Option.some.inj hk
      subst ev
      subst ek
      rw [et, places_snoc, if_pos rfl, tl, intsN_append]
      refine ⟨KT.owns ho (fun j z y => ?_), ?_, p9mb, Nat.succ_pos _⟩
      · rw [blockOf_own] at z
        have y : j = mb := y
        rw [y] at z
        exact p9mb z
      · rw [List.length_append]
        show s.n + 1 = _
        rw [sn.1]
        rfl
    · rename_i ne
      rw [et, places_snoc, if_neg (fun z => ne z.symm)]
      obtain ⟨r1, r2, r3, r4⟩ := h2 k t hk
      refine ⟨KT.owns (KG.owns (KY.owns r1 (fun _ _ z => z)) (fun j z y => ?_)) (fun j z y => ?_), r2, r3, r4⟩
      · rw [blockOf_own] at z
        exact h3 k (keyE e) t s j hk (sn.2.2 j y) ne z y
      · rw [blockOf_own] at z
        have y : j = mb := y
        rw [y] at z
        exact r3 z
  · unfold upd at hk hk'
    split at hk
    · rename_i e1
      split at hk'
      · rename_i e2
        exact ne (e1.trans e2.symm)
      · rename_i e2
        have ev := Option.some.inj hk
        subst ev
        rcases p9b j z with q | q
        · exact h3 (keyE e) k' s t' j (sn.2.2 j q) hk' (fun u => e2 u.symm) q y
        · have := (own_lt (h2 k' t' hk').1 j y).2
          omega
    · rename_i e1
      split at hk'
      · have ev := Option.some.inj hk'
        subst ev
        rcases p9b j y with q | q
        · exact h3 k (keyE e) t s j hk (sn.2.2 j q) e1 z q
        · have := (own_lt (h2 k t hk).1 j z).2
          omega
      · exact h3 k k' t t' j hk hk' ne z y
  · refine (Kept.own (K0.trans KY (fun _ _ z => z)) KG (fun j z => ?_)).trans KT (fun j hj z => ?_)
    · exact (own_lt (h2 _ _ (sn.2.2 j z)).1 j z).1
    · have z : j = mb := z
      omega
end Go.Proofs.YtbangbobfeflcaaDoor
