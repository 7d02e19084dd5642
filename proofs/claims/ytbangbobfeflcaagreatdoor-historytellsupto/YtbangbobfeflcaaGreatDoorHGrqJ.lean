import Derived.Test.YtbangbobfeflcaaGreatDoorHFaJ
import Derived.Test.YtbangbobfeflcaaGreatDoorHCheckJ
import Derived.Laws.Rows
import Derived.Deep.Cut
import Derived.Deep.RegionHeldLaw
import Derived.BigQuiet
namespace Go.Proofs.YtbangbobfeflcaaGreatDoor
open Go.RowKit 

/-- A call, as it is told. -/
structure Cc where
  client : Int
  op : Int
  put : Bool
  key : ByteArray
  val : List Nat
  st : Int
  frm : Int
  too : Int
  opn : Bool
  tx : Int
  ty : Int
def keyE (e : Ev) : Int × Int := (e.client, e.op)
def isAt (es : List Ev) (k : Int × Int) (i : Nat) : Bool := match es[i]? with | some e => decide (keyE e = k) | none => false
/-- The places of an operation's events. -/
def placesE (es : List Ev) (k : Int × Int) : List Nat := (List.range es.length).filter (isAt es k)
def isInv (es : List Ev) (i : Nat) : Bool := match es[i]? with | some e => decide (e.kind = 1) | none => false
def invE (es : List Ev) : List Nat := (List.range es.length).filter (isInv es)
def beginC (b : Ev) (p : Nat) : Cc := ⟨b.client, b.op, b.put, b.key, b.val, 0, (p : Int), -1, b.put, 0, 0⟩
def endC (c : Cc) (x : Ev) (q : Nat) : Cc :=
  if x.kind = 3 then { c with st := 77, tx := x.tx, ty := x.ty }
  else if c.put = false then { c with st := x.st, tx := x.tx, ty := x.ty, too := (q : Int), val := x.val }
  else if x.st = 0 then { c with st := x.st, tx := x.tx, ty := x.ty, too := (q : Int), opn := false }
  else { c with st := x.st, tx := x.tx, ty := x.ty }
/-- The call whose events stand at these places. -/
def callP (es : List Ev) : List Nat → Option Cc
  | [] => none
  | [p] => (es[p]?).map fun b => beginC b p
  | p :: q :: _ => match es[p]?, es[q]? with | some b, some x => some (endC (beginC b p) x q) | _, _ => none
def keyAt (es : List Ev) (i : Nat) : Int × Int := match es[i]? with | some e => keyE e | none => (0, 0)
def callsE (es : List Ev) : List (Option Cc) := (invE es).map fun i => callP es (placesE es (keyAt es i))
theorem get_old {es : List Ev} {e : Ev} {i : Nat} (h : i < es.length) : (es ++ [e])[i]? = es[i]? := List.getElem?_append_left h
theorem get_new (es : List Ev) (e : Ev) : (es ++ [e])[es.length]? = some e := by rw [List.getElem?_append_right (Nat.le_refl _), Nat.sub_self]; rfl
theorem places_snoc (es : List Ev) (e : Ev) (k : Int × Int) : placesE (es ++ [e]) k = if keyE e = k then placesE es k ++ [es.length] else placesE es k := by
  unfold placesE
  rw [List.length_append, List.length_singleton, List.range_succ, List.filter_append]
  have e1 : (List.range es.length).filter (isAt (es ++ [e]) k) = (List.range es.length).filter (isAt es k) := by
    refine List.filter_congr (fun i hi => ?_)
    unfold isAt
    rw [get_old (List.mem_range.1 hi)]
  have e2 : isAt (es ++ [e]) k es.length = decide (keyE e = k) := by
    unfold isAt
    rw [get_new]
  rw [e1]
  by_cases h : keyE e = k
  · rw [if_pos h, List.filter_cons_of_pos (by rw [e2, decide_eq_true h])]
    rfl
  · rw [if_neg h, List.filter_cons_of_neg (by rw [e2, decide_eq_false h]; decide)]
    simp
theorem inv_snoc (es : List Ev) (e : Ev) : invE (es ++ [e]) = if e.kind = 1 then invE es ++ [es.length] else invE es := by
  unfold invE
  rw [List.length_append, List.length_singleton, List.range_succ, List.filter_append]
  have e1 : (List.range es.length).filter (isInv (es ++ [e])) = (List.range es.length).filter (isInv es) := by
    refine List.filter_congr (fun i hi => ?_)
    unfold isInv
    rw [get_old (List.mem_range.1 hi)]
  have e2 : isInv (es ++ [e]) es.length = decide (e.kind = 1) := by
    unfold isInv
    rw [get_new]
  rw [e1]
  by_cases h : e.kind = 1
  · rw [if_pos h, List.filter_cons_of_pos (by rw [e2, decide_eq_true h])]
    rfl
  · rw [if_neg h, List.filter_cons_of_neg (by rw [e2, decide_eq_false h]; decide)]
    simp
theorem places_lt {es : List Ev} {k : Int × Int} : ∀ p ∈ placesE es k, p < es.length := fun _ hp => List.mem_range.1 (List.mem_filter.1 hp).1
theorem callP_old {es : List Ev} {e : Ev} : ∀ {pl : List Nat}, (∀ p ∈ pl, p < es.length) → callP (es ++ [e]) pl = callP es pl
  | [], _ => rfl
  | [p], h => by
    show ((es ++ [e])[p]?).map _ = (es[p]?).map _
    rw [get_old (h p (by simp))]
  | p :: q :: r, h => by
    show (match (es ++ [e])[p]?, (es ++ [e])[q]? with | some b, some x => some (endC (beginC b p) x q) | _, _ => none) = (match es[p]?, es[q]? with | some b, some x => some (endC (beginC b p) x q) | _, _ => none)
    rw [get_old (h p (by simp)), get_old (h q (by simp))]
theorem keyAt_old {es : List Ev} {e : Ev} {i : Nat} (h : i < es.length) : keyAt (es ++ [e]) i = keyAt es i := by
  unfold keyAt
  rw [get_old h]
theorem inv_lt {es : List Ev} : ∀ p ∈ invE es, p < es.length := fun _ hp => List.mem_range.1 (List.mem_filter.1 hp).1
/-- A new operation begins. -/
theorem calls_begin {es : List Ev} {e : Ev} (h1 : e.kind = 1) (h2 : placesE es (keyE e) = []) : callsE (es ++ [e]) = callsE es ++ [some (beginC e es.length)] := by
  unfold callsE
  rw [inv_snoc, if_pos h1, List.map_append]
  congr 1
  · refine List.map_congr_left (fun i hi => ?_)
    have il := inv_lt i hi
    rw [keyAt_old il, places_snoc]
    have ne : ¬ keyE e = keyAt es i := fun z => by
      have hm : i ∈ placesE es (keyE e) := by
        unfold placesE
        refine List.mem_filter.2 ⟨List.mem_range.2 il, ?_⟩
        unfold isAt
        unfold keyAt at z
        have hg : es[i]? = some es[i] := List.getElem?_eq_getElem il
        rw [hg] at z ⊢
        exact decide_eq_true z.symm
      rw [h2] at hm
      cases hm
    rw [if_neg ne, callP_old (fun p hp => places_lt p hp)]
  · rw [List.map_singleton]
    have hk : keyAt (es ++ [e]) es.length = keyE e := by unfold keyAt; rw [get_new]
    rw [hk, places_snoc, if_pos rfl, h2, List.nil_append]
    show [((es ++ [e])[es.length]?).map _] = _
    rw [get_new]
    rfl
/-- What a client has under way. -/
structure Bz where
  on : Bool
  op : Int
  at_ : Nat
  put : Bool
  key : ByteArray
structure RI (es : List Ev) (cs : List Cc) (now : Nat → Bz) (i : Nat) : Prop where
  ck : chkE es noM 0 = (-1, 0)
  on : ∀ c : Nat, c < 5 → (now c).on = true → ∃ x p, lastM es noM ((c : Int) + 1) = some x ∧ x.kind = 1 ∧ x.op = (now c).op ∧ x.put = (now c).put ∧ x.key = (now c).key ∧ placesE es ((c : Int) + 1, (now c).op) = [p] ∧ es[p]? = some x ∧ (invE es)[(now c).at_]? = some p
  off : ∀ c : Nat, c < 5 → (now c).on = false → (lastM es noM ((c : Int) + 1) = none ∧ (now c).op = 0) ∨ ∃ x, lastM es noM ((c : Int) + 1) = some x ∧ ¬ x.kind = 1 ∧ x.op = (now c).op
  op : ∀ c : Nat, c < 5 → 0 ≤ (now c).op ∧ (now c).op ≤ (i : Int)
  mem : ∀ e ∈ es, ∃ c : Nat, c < 5 ∧ e.client = (c : Int) + 1 ∧ e.op ≤ (now c).op
  cs : cs.map some = callsE es
  len : es.length = i
theorem lastM_snoc (es : List Ev) (e : Ev) (M : Int → Option Ev) : lastM (es ++ [e]) M = upd (lastM es M) e.client e := by
  rw [lastM_app]
  rfl
theorem chk_snoc {es : List Ev} {e : Ev} (h : chkE es noM 0 = (-1, 0)) (hf : faultE e = 0) (hm : mayF (lastM es noM e.client) e = true) : chkE (es ++ [e]) noM 0 = (-1, 0) := by
  rw [chk_app es [e] _ _ h, chk_cons, if_neg (by rw [hf]; simp), if_neg (by rw [hm]; simp)]
  rfl
theorem RI.start (now : Nat → Bz) (h : ∀ c, (now c).on = false ∧ (now c).op = 0) : RI [] [] now 0 :=
  ⟨rfl, fun c _ z => (by rw [(h c).1] at z; cases z), fun c _ _ => .inl ⟨rfl, (h c).2⟩, fun c _ => (by rw [(h c).2]; omega), fun e he => (by cases he), rfl, rfl⟩
def setB (now : Nat → Bz) (c : Nat) (b : Bz) : Nat → Bz := fun j => if j = c then b else now j
theorem RI.begin {es : List Ev} {cs : List Cc} {now : Nat → Bz} {i : Nat} (h : RI es cs now i) {c : Nat} (hc : c < 5) (ho : (now c).on = false) {e : Ev} (k1 : e.kind = 1) (k2 : e.client = (c : Int) + 1) (k3 : e.op = (now c).op + 1) (hf : faultE e = 0) : RI (es ++ [e]) (cs ++ [beginC e es.length]) (setB now c ⟨true, (now c).op + 1, cs.length, e.put, e.key⟩) (i + 1) := by
  have ke : keyE e = ((c : Int) + 1, (now c).op + 1) := by unfold keyE; rw [k2, k3]
  have pe : placesE es (keyE e) = [] := by
    refine List.filter_eq_nil_iff.2 (fun p hp z => ?_)
    unfold isAt at z
    have hg : es[p]? = some (es[p]'(List.mem_range.1 hp)) := List.getElem?_eq_getElem _
    rw [hg] at z
    have z := of_decide_eq_true z
    obtain ⟨c', c1, c2, c3⟩ := h.mem _ (List.mem_of_getElem? hg)
    rw [ke] at z
    have z1 := congrArg Prod.fst z
    have z2 := congrArg Prod.snd z
    unfold keyE at z1 z2
    simp at z1 z2
    have : c' = c := by omega
    subst this
    omega
  have csl : cs.length = (invE es).length := by
    have := congrArg List.length h.cs
    rw [List.length_map] at this
    rw [this]
    unfold callsE
    rw [List.length_map]
  refine ⟨chk_snoc h.ck hf ?_, fun c' hc' ho' => ?_, fun c' hc' ho' => ?_, fun c' hc' => ?_, fun x hx => ?_, ?_, by rw [List.length_append, h.len]; rfl⟩
  · rw [k2]
    unfold mayF
    rw [if_pos k1, k3]
    rcases h.off c hc ho with ⟨z1, z2⟩ | ⟨x, z1, z2, z3⟩
    · rw [z1, z2]
      simp
    · rw [z1]
      simp [z2, z3]
  · unfold setB at ho' ⊢
    by_cases e1 : c' = c
    · subst e1
      rw [if_pos rfl]
      refine ⟨e, es.length, ?_, k1, k3, rfl, rfl, ?_, get_new es e, ?_⟩
      · rw [lastM_snoc, k2]
        unfold upd
        rw [if_pos rfl]
      · rw [← ke, places_snoc, if_pos rfl, pe]
        rfl
      · rw [inv_snoc, if_pos k1]
        show (invE es ++ [es.length])[cs.length]? = some es.length
        rw [csl, List.getElem?_append_right (Nat.le_refl _), Nat.sub_self]
        rfl
    · rw [if_neg e1] at ho' ⊢
      obtain ⟨x, p, q1, q2, q3, q4, q5, q6, q7, q8⟩ := h.on c' hc' ho'
      refine ⟨x, p, ?_, q2, q3, q4, q5, ?_, ?_, ?_⟩
      · rw [lastM_snoc, k2]
        unfold upd
        rw [if_neg (by omega)]
        exact q1
      · rw [places_snoc, if_neg (by rw [ke]; intro z; have := congrArg Prod.fst z; simp at this; omega)]
        exact q6
      · rw [get_old (List.getElem?_eq_some_iff.1 q7).1]
        exact q7
      · rw [inv_snoc, if_pos k1, List.getElem?_append_left (List.getElem?_eq_some_iff.1 q8).1]
        exact q8
  · unfold setB at ho' ⊢
    by_cases e1 : c' = c
    · rw [if_pos e1] at ho'
      cases ho'
    · rw [if_neg e1] at ho' ⊢
      have hl : lastM (es ++ [e]) noM ((c' : Int) + 1) = lastM es noM ((c' : Int) + 1) := by
        rw [lastM_snoc, k2]
        unfold upd
        rw [if_neg (by omega)]
      rw [hl]
      exact h.off c' hc' ho'
  · unfold setB
    have q := h.op c' hc'
    by_cases e1 : c' = c
    · rw [if_pos e1]
      subst e1
      show 0 ≤ (now c').op + 1 ∧ (now c').op + 1 ≤ _
      omega
    · rw [if_neg e1]
      omega
  · unfold setB
    rcases List.mem_append.1 hx with z | z
    · obtain ⟨c', q1, q2, q3⟩ := h.mem x z
      refine ⟨c', q1, q2, ?_⟩
      by_cases e1 : c' = c
      · rw [if_pos e1]
        subst e1
        show x.op ≤ (now c').op + 1
        omega
      · rw [if_neg e1]
        exact q3
    · rw [List.mem_singleton] at z
      refine ⟨c, hc, by rw [z]; exact k2, ?_⟩
      rw [if_pos rfl, z, k3]
      exact Int.le_refl _
  · rw [List.map_append, h.cs, calls_begin k1 pe]
    rfl
theorem RI.at {es : List Ev} {cs : List Cc} {now : Nat → Bz} {i : Nat} (h : RI es cs now i) {c : Nat} (hc : c < 5) (ho : (now c).on = true) : ∃ x p, es[p]? = some x ∧ x.client = (c : Int) + 1 ∧ x.op = (now c).op ∧ x.put = (now c).put ∧ x.key = (now c).key ∧ p < i ∧ cs[(now c).at_]? = some (beginC x p) ∧ placesE es ((c : Int) + 1, (now c).op) = [p] ∧ (invE es)[(now c).at_]? = some p ∧ lastM es noM ((c : Int) + 1) = some x ∧ x.kind = 1 := by
  obtain ⟨x, p, q1, q2, q3, q4, q5, q6, q7, q8⟩ := h.on c hc ho
  have hk : keyE x = ((c : Int) + 1, (now c).op) := by
    have hm : p ∈ placesE es ((c : Int) + 1, (now c).op) := by rw [q6]; simp
    have := (List.mem_filter.1 hm).2
    unfold isAt at this
    rw [q7] at this
    exact of_decide_eq_true this
  refine ⟨x, p, q7, congrArg Prod.fst hk, q3, q4, q5, ?_, ?_, q6, q8, q1, q2⟩
  · rw [← h.len]
    exact (List.getElem?_eq_some_iff.1 q7).1
  · have e1 : (cs.map some)[(now c).at_]? = some (callP es [p]) := by
      rw [h.cs]
      unfold callsE
      rw [List.getElem?_map, q8]
      show some (callP es (placesE es (keyAt es p))) = _
      have : keyAt es p = ((c : Int) + 1, (now c).op) := by
        unfold keyAt
        rw [q7]
        exact hk
      rw [this, q6]
    have e2 : callP es [p] = some (beginC x p) := by
      show (es[p]?).map _ = _
      rw [q7]
      rfl
    rw [e2, List.getElem?_map] at e1
    obtain ⟨y, hy, e3⟩ := Option.map_eq_some_iff.1 e1
    rw [hy]
    exact e3
end Go.Proofs.YtbangbobfeflcaaGreatDoor

namespace Go.Proofs.YtbangbobfeflcaaGreatDoor
open Go.RowKit 

def intsN (R : List Nat) : List Value := R.map fun r : Nat => .int .i64 (r : Int)
theorem intsN_append (a b : List Nat) : intsN (a ++ b) = intsN a ++ intsN b := by unfold intsN; rw [List.map_append]
theorem Tryz.info3c : (Tryz.prog.info? 3).map (fun i => (i.zero, i.size, i.bytes)) = some (some (.int .i64 0), 1, 8) := by kernel_rfl
theorem src_one {w : World} {b i : Nat} (h : w.heap[b]? = some (.cells #[.int .i64 (i : Int)] 3 (0, 0))) : Src Tryz.prog 1 70 (.slice (some ⟨b, 0, none⟩) 1 1) 1 (intsN [i]) w :=
  Src.ofSlice w Tryz.underlying70 ⟨b, 0, none⟩ 1 1 (intsN [i]) rfl (fun j u hj => by
    rw [Addr.add_none, Nat.zero_add]
    refine cell_blk h j ?_
    have e : intsN [i] = [.int .i64 (i : Int)] := rfl
    rw [e] at hj
    simpa using hj) (fun v hv => by
    have e : intsN [i] = [.int .i64 (i : Int)] := rfl
    rw [e] at hv
    simp at hv
    rw [hv]
    rfl)
theorem hOper (e : Ev) (w : World) : Calls Tryz.prog 44 #[.agg #[.int .i64 e.kind, .int .i64 e.client, .int .i64 e.op, .bool e.put, .string e.key, .slice e.va e.vn e.vc, .int .i64 e.st, .int .i64 e.tx, .int .i64 e.ty]] w fun o w' => o = .returned (.agg #[.int .i64 e.client, .int .i64 e.op]) ∧ Kept (fun _ => False) w w' := by
  go_enter Tryz.func44, Tryz.ntmps44
  go_wp2_with fail
  refine bodyPost_ret (results_cell_row rfl _ _ (w.heap.size + 1) 78 #[.int .i64 e.client, .int .i64 e.op] (0, 0) _ rfl ?_ Tryz.underlying78 rfl (by kernel_rfl)) rfl ?_
  · have := alloc_new (w.alloc (.cells #[.int .i64 e.kind, .int .i64 e.client, .int .i64 e.op, .bool e.put, .string e.key, .slice e.va e.vn e.vc, .int .i64 e.st, .int .i64 e.tx, .int .i64 e.ty] 39)) (.cells #[.int .i64 e.client, .int .i64 e.op] 78)
    rw [alloc_size] at this
    exact this
  · exact ⟨rfl, ((Kept.refl _ _).alloc _).alloc _⟩
/-- append to a row of numbers, at a step of a region that draws. -/
theorem step_append_ints {ops : Array Oper} {o : Oper} {a : Act} {K : Act → World → Prop} {Q : Exit → Act → World → Prop} {E : Prop} (w : World) (hgd : o.guard = none) (s x : Operand)
    (ho : o.op = .call { callee := .builtin .append, args := #[s, x], argTypes := #[70, 70] })
    (base : Nat) (v : Value) (n : Nat) (xs : List Value) (hs : a.eval s = v) (hown : w.ownsRow base 3 1 v n xs)
    (y : Value) (m : Nat) (news : List Value) (hx : a.eval x = y) (r : Src Tryz.prog 1 70 y m news w)
    (h63 : n + m ≤ maxLen) (hbytes : ((n + m) + (n + m) / 4 + 192) * 8 ≤ 281474976710656) (hbase : base ≤ w.heap.size)
    (h : ∀ p c w', Hid (w'.ownsRow base 3 1 (.slice p (n + m) c) (n + m) (xs ++ news)) → Hid (w.grownBy w' v.ownBlock) → Hid ((Value.slice p (n + m) c).ownBlock = v.ownBlock ∨ ((Value.slice p (n + m) c).ownBlock = some w.heap.size ∧ w.grownBy w' none)) → K (a.put o.dst (.slice p (n + m) c)) w') : if Region.wanted o (yielded ops a.tmps) = true then Oper.wp Tryz.prog o a w K Q else E := by
  have hw : Region.wanted o (yielded ops a.tmps) = true := by simp [Region.wanted, hgd]
  rw [if_pos hw]
  obtain ⟨i, hi, hz, hsize, hby⟩ := info_parts Tryz.info3c
  obtain ⟨v', w', hr, h2, h3, _, h5⟩ := append_all (P := Tryz.prog) w base 70 70 o.type 3 i (.int .i64 0) 1 8 Tryz.underlying70 hi hz hsize hby rfl v n xs hown y m news r h63 hbytes hbase
  unfold Oper.wp execOp
  simp only [ho, resolve, invoke, builtin, Sem.run_bind, Sem.run_pure, Result.andThen_ok, List.map_toArray, List.map_cons, List.map_nil, hs, hx, hr]
  obtain ⟨p, c, rfl⟩ : ∃ p c, v' = .slice p (n + m) c := by
    rcases h2.2 with ⟨rfl, e⟩ | ⟨g, cap, cur, rfl, _⟩
    · exact ⟨none, 0, by rw [e]⟩
    · exact ⟨_, _, rfl⟩
  exact h p c w' h2 h3 h5
/-- 'm[k] = v', at a step of a region that draws. -/
theorem step_put {κ ε : Type} {T K E : TypeId} {kv : κ → Value} {kl : κ → Lit} {KF : κ → Prop} {ev : ε → Value} {z : ε} {RD : Value → Option (DataW Value × List MemPlace)} [DecidableEq κ] (X : MK T K E kv kl KF ev z RD) (w : World) {ops : Array Oper} {o : Oper} {a : Act} {K' : Act → World → Prop} {Q : Exit → Act → World → Prop} {E' : Prop} (hg : o.guard = none) (m x v : Operand) (hop : o.op = Op.mapUpdate T m x v) (b n : Nat) (M : κ → Option ε)
    (hm : a.eval m = .map (some b)) (h : TM K kl KF ev RD w b n M) (hn : n < maxLen) (k : κ) (hk : KF k) (e : ε) (hx : a.eval x = kv k) (hv : a.eval v = ev e)
    (hK : ∀ w', Hid (TM K kl KF ev RD w' b (nput n M k) (upd M k e)) → Hid (Kept (fun j => j = b) w w') → K' (a.put o.dst undef) w') : if Region.wanted o (yielded ops a.tmps) = true then Oper.wp Tryz.prog o a w K' Q else E' := by
  have hw : Region.wanted o (yielded ops a.tmps) = true := by simp [Region.wanted, hg]
  rw [if_pos hw]
  obtain ⟨D, h, s, e0⟩ := h
  obtain ⟨w', hrun, r1, r2⟩ := h.update X.law X.und hn (X.key k hk) (X.rd e)
  unfold Oper.wp
  simp [execOp, hop, hm, hx, hv, hrun, Result.andThen]
  exact hK w' (TM.put X h s e0 hk e r1) ((Kept.refl _ w).grown r2 (fun j _ q => by simp at q; exact q.symm))
/-- The places by operation, in memory, of the first i events. -/
structure GS (w : World) (es : List Ev) (mb i : Nat) (wr : World) : Prop where
  ok : ∃ (n : Nat) (Mp : Int × Int → Option Sl), TM 78 opL opF Sl.v RSl wr mb n Mp ∧ n ≤ i ∧ (∀ k, Mp k = none → placesE (es.take i) k = []) ∧ (∀ k s, Mp k = some s → wr.ownsRow w.heap.size 3 1 (.slice s.p s.n s.c) s.n (intsN (placesE (es.take i) k)) ∧ s.n = (placesE (es.take i) k).length ∧ ¬ blockOf s.p = some mb ∧ 0 < s.n) ∧ (∀ k k' s s' j, Mp k = some s → Mp k' = some s' → k ≠ k' → blockOf s.p = some j → ¬ blockOf s'.p = some j)
  kept : Kept (fun _ => False) w wr
  mb : w.heap.size ≤ mb ∧ mb < wr.heap.size
end Go.Proofs.YtbangbobfeflcaaGreatDoor

namespace Go.Proofs.YtbangbobfeflcaaGreatDoor
open Go.RowKit 

theorem Kept.own {w w' w'' : World} {S : Nat → Prop} (h : Kept (fun _ => False) w w') (k : Kept S w' w'') (hs : ∀ b, S b → w.heap.size ≤ b) : Kept (fun _ => False) w w'' := h.trans k (fun j hj z => by have := hs j z; omega)
theorem GS.step {w wr Y w9 w10 : World} {es : List Ev} {mb i n : Nat} {Mp : Int × Int → Option Sl} {e : Ev} {s : Sl} {p9 : Option Addr} {c9 : Nat} (hn : n ≤ i) (h1 : ∀ k, Mp k = none → placesE (es.take i) k = []) (h2 : ∀ k s, Mp k = some s → wr.ownsRow w.heap.size 3 1 (.slice s.p s.n s.c) s.n (intsN (placesE (es.take i) k)) ∧ s.n = (placesE (es.take i) k).length ∧ ¬ blockOf s.p = some mb ∧ 0 < s.n) (h3 : ∀ k k' s s' j, Mp k = some s → Mp k' = some s' → k ≠ k' → blockOf s.p = some j → ¬ blockOf s'.p = some j)
    (K0 : Kept (fun _ => False) w wr) (hmb : w.heap.size ≤ mb ∧ mb < wr.heap.size) (KY : Kept (fun _ => False) wr Y) (he : es[i]? = some e) (hs : s = (Mp (keyE e)).getD ⟨none, 0, 0⟩)
    (ho : w9.ownsRow w.heap.size 3 1 (.slice p9 (s.n + 1) c9) (s.n + 1) (intsN (placesE (es.take i) (keyE e)) ++ intsN [i])) (hg : Y.grownBy w9 (Value.slice s.p s.n s.c).ownBlock) (hn9 : (Value.slice p9 (s.n + 1) c9).ownBlock = (Value.slice s.p s.n s.c).ownBlock ∨ ((Value.slice p9 (s.n + 1) c9).ownBlock = some Y.heap.size ∧ Y.grownBy w9 none))
    (tm : TM 78 opL opF Sl.v RSl w10 mb (nput n Mp (keyE e)) (upd Mp (keyE e) ⟨p9, s.n + 1, c9⟩)) (KT : Kept (fun j => j = mb) w9 w10) : GS w es mb (i + 1) w10 := by
  have hil := (List.getElem?_eq_some_iff.1 he).1
  have et : es.take (i + 1) = es.take i ++ [e] := by rw [List.take_add_one, he]; rfl
  have tl : (es.take i).length = i := by rw [List.length_take]; omega
  have KG : Kept (fun j => blockOf s.p = some j) Y w9 := (Kept.refl _ Y).grown hg (fun j _ z => by rw [blockOf_own] at z; exact z)
  rw [blockOf_own, blockOf_own] at hn9
  have sY := KY.size
  have sG := KG.size
  have sT := KT.size
  have sn : s.n = (placesE (es.take i) (keyE e)).length ∧ ¬ blockOf s.p = some mb ∧ ∀ j, blockOf s.p = some j → Mp (keyE e) = some s := by
    cases hq : Mp (keyE e) with
    | none =>
      rw [hq] at hs
      rw [hs, h1 _ hq]
      exact ⟨rfl, fun z => (by cases z), fun j z => (by cases z)⟩
    | some s' =>
      rw [hq] at hs
      have hs : s = s' := hs
      rw [hs]
      exact ⟨(h2 _ _ hq).2.1, (h2 _ _ hq).2.2.1, fun _ _ => rfl⟩
  have p9b : ∀ j, blockOf p9 = some j → (blockOf s.p = some j) ∨ j = Y.heap.size := by
    intro j z
    rcases hn9 with q | ⟨q, _⟩
    · left
      rw [← q]
      exact z
    · right
      rw [q] at z
      exact (Option.some.inj z).symm
  have p9mb : ¬ blockOf p9 = some mb := fun z => by
    rcases p9b mb z with q | q
    · exact sn.2.1 q
    · omega
  refine ⟨⟨_, _, tm, ?_, fun k hk => ?_, fun k t hk => ?_, fun k k' t t' j hk hk' ne z y => ?_⟩, ?_, hmb.1, by omega⟩
  · unfold nput
    split <;> omega
  · unfold upd at hk
    split at hk
    · cases hk
    · rename_i ne
      rw [et, places_snoc, if_neg (fun z => ne z.symm)]
      exact h1 k hk
  · unfold upd at hk
    split at hk
    · rename_i ek
      have ev := Option.some.inj hk
      subst ev
      subst ek
      rw [et, places_snoc, if_pos rfl, tl, intsN_append]
      refine ⟨KT.owns ho (fun j z y => ?_), ?_, p9mb, Nat.succ_pos _⟩
      · rw [blockOf_own] at z
        have y : j = mb := y
        rw [y] at z
        exact p9mb z
      · rw [List.length_append]
        show s.n + 1 = _
        rw [sn.1]
        rfl
    · rename_i ne
      rw [et, places_snoc, if_neg (fun z => ne z.symm)]
      obtain ⟨r1, r2, r3, r4⟩ := h2 k t hk
      refine ⟨KT.owns (KG.owns (KY.owns r1 (fun _ _ z => z)) (fun j z y => ?_)) (fun j z y => ?_), r2, r3, r4⟩
      · rw [blockOf_own] at z
        exact h3 k (keyE e) t s j hk (sn.2.2 j y) ne z y
      · rw [blockOf_own] at z
        have y : j = mb := y
        rw [y] at z
        exact r3 z
  · unfold upd at hk hk'
    split at hk
    · rename_i e1
      split at hk'
      · rename_i e2
        exact ne (e1.trans e2.symm)
      · rename_i e2
        have ev := Option.some.inj hk
        subst ev
        rcases p9b j z with q | q
        · exact h3 (keyE e) k' s t' j (sn.2.2 j q) hk' (fun u => e2 u.symm) q y
        · have := (own_lt (h2 k' t' hk').1 j y).2
          omega
    · rename_i e1
      split at hk'
      · have ev := Option.some.inj hk'
        subst ev
        rcases p9b j y with q | q
        · exact h3 k (keyE e) t s j hk (sn.2.2 j q) e1 z q
        · have := (own_lt (h2 k t hk).1 j z).2
          omega
      · exact h3 k k' t t' j hk hk' ne z y
  · refine (Kept.own (K0.trans KY (fun _ _ z => z)) KG (fun j z => ?_)).trans KT (fun j hj z => ?_)
    · exact (own_lt (h2 _ _ (sn.2.2 j z)).1 j z).1
    · have z : j = mb := z
      omega
end Go.Proofs.YtbangbobfeflcaaGreatDoor
