import Derived.Test.YtbangbobfeflcaaDoorHEvJ
namespace Go.Proofs.YtbangbobfeflcaaDoor
open Go.RowKit 

/-- A call, as it is told. -/
structure Cc where
  client : Int
  op : Int
  put : Bool
  key : ByteArray
  val : List Nat
  st : Int
  frm : Int
  too : Int
  opn : Bool
  tx : Int
  ty : Int
def keyE (e : Ev) : Int × Int := (e.client, e.op)
def isAt (es : List Ev) (k : Int × Int) (i : Nat) : Bool := match es[i]? with | some e => decide (keyE e = k) | none => false
/-- The places of an operation's events. -/
def placesE (es : List Ev) (k : Int × Int) : List Nat := (List.range es.length).filter (isAt es k)
def isInv (es : List Ev) (i : Nat) : Bool := match es[i]? with | some e => decide (e.kind = 1) | none => false
def invE (es : List Ev) : List Nat := (List.range es.length).filter (isInv es)
def beginC (b : Ev) (p : Nat) : Cc := ⟨b.client, b.op, b.put, b.key, b.val, 0, (p : Int), -1, b.put, 0, 0⟩
def endC (c : Cc) (x : Ev) (q : Nat) : Cc :=
  if x.kind = 3 then { c with st := 77, tx := x.tx, ty := x.ty }
  else if c.put = false then { c with st := x.st, tx := x.tx, ty := x.ty, too := (q : Int), val := x.val }
  else if x.st = 0 then { c with st := x.st, tx := x.tx, ty := x.ty, too := (q : Int), opn := false }
  else { c with st := x.st, tx := x.tx, ty := x.ty }
/-- The call whose events stand at these places. -/
def callP (es : List Ev) : List Nat → Option Cc
  | [] => none
  | [p] => (es[p]?).map fun b => beginC b p
  | p :: q :: _ => match es[p]?, es[q]? with | some b, some x => some (endC (beginC b p) x q) | _, _ => none
def keyAt (es : List Ev) (i : Nat) : Int × Int := match es[i]? with | some e => keyE e | none => (0, 0)
def callsE (es : List Ev) : List (Option Cc) := (invE es).map fun i => callP es (placesE es (keyAt es i))
theorem get_old {es : List Ev} {e : Ev} {i : Nat} (h : i < es.length) : (es ++ [e])[i]? = es[i]? := List.getElem?_append_left h
theorem get_new (es : List Ev) (e : Ev) : (es ++ [e])[es.length]? = some e := by rw [List.getElem?_append_right (Nat.le_refl _), Nat.sub_self]; rfl
theorem places_snoc (es : List Ev) (e : Ev) (k : Int × Int) : placesE (es ++ [e]) k = if keyE e = k then placesE es k ++ [es.length] else placesE es k := by
  unfold placesE
  rw [List.length_append, List.length_singleton, List.range_succ, List.filter_append]
  have e1 : (List.range es.length).filter (isAt (es ++ [e]) k) = (List.range es.length).filter (isAt es k) := by
    refine List.filter_congr (fun i hi => ?_)
    unfold isAt
    rw [get_old (List.mem_range.1 hi)]
  have e2 : isAt (es ++ [e]) k es.length = decide (keyE e = k) := by
    unfold isAt
    rw [get_new]
  rw [e1]
  by_cases h : keyE e = k
  · rw [if_pos h, List.filter_cons_of_pos (by rw [e2, decide_eq_true h])]
    rfl
  · rw [if_neg h, List.filter_cons_of_neg (by rw [e2, decide_eq_false h]; decide)]
    simp
theorem inv_snoc (es : List Ev) (e : Ev) : invE (es ++ [e]) = if e.kind = 1 then invE es ++ [es.length] else invE es := by
  unfold invE
  rw [List.length_append, List.length_singleton, List.range_succ, List.filter_append]
  have e1 : (List.range es.length).filter (isInv (es ++ [e])) = (List.range es.length).filter (isInv es) := by
    refine List.filter_congr (fun i hi => ?_)
    unfold isInv
    rw [get_old (List.mem_range.1 hi)]
  have e2 : isInv (es ++ [e]) es.length = decide (e.kind = 1) := by
    unfold isInv
    rw [get_new]
  rw [e1]
  by_cases h : e.kind = 1
  · rw [if_pos h, List.filter_cons_of_pos (by rw [e2, decide_eq_true h])]
    rfl
  · rw [if_neg h, List.filter_cons_of_neg (by rw [e2, decide_eq_false h]; decide)]
    simp
theorem places_lt {es : List Ev} {k : Int × Int} : ∀ p ∈ placesE es k, p < es.length := fun _ hp => List.mem_range.1 (List.mem_filter.1 hp).1
theorem callP_old {es : List Ev} {e : Ev} : ∀ {pl : List Nat}, (∀ p ∈ pl, p < es.length) → callP (es ++ [e]) pl = callP es pl
  | [], _ => rfl
  | [p], h => by
    show ((es ++ [e])[p]?).map _ = (es[p]?).map _
    rw [get_old (h p (by simp))]
  | p :: q :: r, h => by
    show (match (es ++ [e])[p]?, (es ++ [e])[q]? with | some b, some x => some (endC (beginC b p) x q) | _, _ => none) = (match es[p]?, es[q]? with | some b, some x => some (endC (beginC b p) x q) | _, _ => none)
    rw [get_old (h p (by simp)), get_old (h q (by simp))]
theorem keyAt_old {es : List Ev} {e : Ev} {i : Nat} (h : i < es.length) : keyAt (es ++ [e]) i = keyAt es i := by
  unfold keyAt
  rw [get_old h]
theorem inv_lt {es : List Ev} : ∀ p ∈ invE es, p < es.length := fun _ hp => List.mem_range.1 (List.mem_filter.1 hp).1
/-- A new operation begins. -/
theorem calls_begin {es : List Ev} {e : Ev} (h1 : e.kind = 1) (h2 : placesE es (keyE e) = []) : callsE (es ++ [e]) = callsE es ++ [some (beginC e es.length)] := by
  unfold callsE
  rw [inv_snoc, if_pos h1, List.map_append]
  congr 1
  · refine List.map_congr_left (fun i hi => ?_)
    have il := inv_lt i hi
    rw [keyAt_old il, places_snoc]
    have ne : ¬ keyE e = keyAt es i := fun z => by
      have hm : i ∈ placesE es (keyE e) := by
        unfold placesE
        refine List.mem_filter.2 ⟨List.mem_range.2 il, ?_⟩
        unfold isAt
        unfold keyAt at z
        have hg : es[i]? = some es[i] := List.getElem?_eq_getElem il
        rw [hg] at z ⊢
        exact decide_eq_true z.symm
      rw [h2] at hm
      cases hm
    rw [if_neg ne, callP_old (fun p hp => places_lt p hp)]
  · rw [List.map_singleton]
    have hk : keyAt (es ++ [e]) es.length = keyE e := by unfold keyAt; rw [get_new]
    rw [hk, places_snoc, if_pos rfl, h2, List.nil_append]
    show [((es ++ [e])[es.length]?).map _] = _
    rw [get_new]
    rfl
/-- An operation ends. -/
theorem calls_end {es : List Ev} {e b : Ev} {p at_ : Nat} (h1 : ¬ e.kind = 1) (h2 : placesE es (keyE e) = [p]) (h3 : es[p]? = some b) (h4 : (invE es)[at_]? = some p) : callsE (es ++ [e]) = (callsE es).set at_ (some (endC (beginC b p) e es.length)) := by
  unfold callsE
  rw [inv_snoc, if_neg h1]
  refine List.ext_getElem? (fun j => ?_)
  rw [List.getElem?_map, List.getElem?_set, List.getElem?_map]
  have nd : (invE es).Nodup := List.Pairwise.filter _ List.nodup_range
  have kp : keyE b = keyE e := by
    have hm : p ∈ placesE es (keyE e) := by rw [h2]; simp
    have := (List.mem_filter.1 hm).2
    unfold isAt at this
    rw [h3] at this
    exact of_decide_eq_true this
  by_cases ej : at_ = j
  · subst ej
    have hl := (List.getElem?_eq_some_iff.1 h4).1
    rw [h4, if_pos rfl, if_pos (by rw [List.length_map]; exact hl)]
    have pl := inv_lt p (List.mem_of_getElem? h4)
    have hk : keyAt (es ++ [e]) p = keyE e := by
      rw [keyAt_old pl]
      unfold keyAt
      rw [h3]
      exact kp
    show some (callP _ (placesE _ (keyAt (es ++ [e]) p))) = _
    rw [hk, places_snoc, if_pos rfl, h2]
    show some (match (es ++ [e])[p]?, (es ++ [e])[es.length]? with | some b, some x => some (endC (beginC b p) x es.length) | _, _ => none) = _
    rw [get_new, get_old pl, h3]
  · rw [if_neg ej]
    cases hj : (invE es)[j]? with
    | none => rfl
    | some i =>
      have il := inv_lt i (List.mem_of_getElem? hj)
      show some (callP _ _) = some (callP _ _)
      rw [keyAt_old il, places_snoc]
      have ne : ¬ keyE e = keyAt es i := fun z => by
        have hm : i ∈ placesE es (keyE e) := by
          unfold placesE
          refine List.mem_filter.2 ⟨List.mem_range.2 il, ?_⟩
          unfold isAt
          unfold keyAt at z
          have hg : es[i]? = some es[i] := List.getElem?_eq_getElem il
          rw [hg] at z ⊢
          exact decide_eq_true z.symm
        rw [h2] at hm
        have ip : i = p := by simpa using hm
        rw [ip] at hj
        have l1 := (List.getElem?_eq_some_iff.1 h4).1
        have l2 := (List.getElem?_eq_some_iff.1 hj).1
        exact ej ((List.getElem?_inj l1 nd).1 (h4.trans hj.symm))
      rw [if_neg ne, callP_old (fun p hp => places_lt p hp)]
/-- What a client has under way. -/
structure Bz where
  on : Bool
  op : Int
  at_ : Nat
  put : Bool
  key : ByteArray
structure RI (es : List Ev) (cs : List Cc) (now : Nat → Bz) (i : Nat) : Prop where
  ck : chkE es noM 0 = (-1, 0)
  on : ∀ c : Nat, c < 5 → (now c).on = true → ∃ x p, lastM es noM ((c : Int) + 1) = some x ∧ x.kind = 1 ∧ x.op = (now c).op ∧ x.put = (now c).put ∧ x.key = (now c).key ∧ placesE es ((c : Int) + 1, (now c).op) = [p] ∧ es[p]? = some x ∧ (invE es)[(now c).at_]? = some p
  off : ∀ c : Nat, c < 5 → (now c).on = false → (lastM es noM ((c : Int) + 1) = none ∧ (now c).op = 0) ∨ ∃ x, lastM es noM ((c : Int) + 1) = some x ∧ ¬ x.kind = 1 ∧ x.op = (now c).op
  op : ∀ c : Nat, c < 5 → 0 ≤ (now c).op ∧ (now c).op ≤ (i : Int)
  mem : ∀ e ∈ es, ∃ c : Nat, c < 5 ∧ e.client = (c : Int) + 1 ∧ e.op ≤ (now c).op
  cs : cs.map some = callsE es
  len : es.length = i
theorem lastM_snoc (es : List Ev) (e : Ev) (M : Int → Option Ev) : lastM (es ++ [e]) M = upd (lastM es M) e.client e := by
  rw [lastM_app]
  rfl
theorem chk_snoc {es : List Ev} {e : Ev} (h : chkE es noM 0 = (-1, 0)) (hf : faultE e = 0) (hm : mayF (lastM es noM e.client) e = true) : chkE (es ++ [e]) noM 0 = (-1, 0) := by
  rw [chk_app es [e] _ _ h, chk_cons, if_neg (by rw [hf]; simp), if_neg (by rw [hm]; simp)]
  rfl
theorem RI.start (now : Nat → Bz) (h : ∀ c, (now c).on = false ∧ (now c).op = 0) : RI [] [] now 0 :=
  ⟨rfl, fun c _ z => (by rw [(h c).1] at z; cases z), fun c _ _ => .inl ⟨rfl, (h c).2⟩, fun c _ => (by rw [(h c).2]; omega), fun e he => (by cases he), rfl, rfl⟩
def setB (now : Nat → Bz) (c : Nat) (b : Bz) : Nat → Bz := fun j => if j = c then b else now j
theorem RI.begin {es : List Ev} {cs : List Cc} {now : Nat → Bz} {i : Nat} (h : RI es cs now i) {c : Nat} (hc : c < 5) (ho : (now c).on = false) {e : Ev} (k1 : e.kind = 1) (k2 : e.client = (c : Int) + 1) (k3 : e.op = (now c).op + 1) (hf : faultE e = 0) : RI (es ++ [e]) (cs ++ [beginC e es.length]) (setB now c ⟨true, (now c).op + 1, cs.length, e.put, e.key⟩) (i + 1) := by
  have ke : keyE e = ((c : Int) + 1, (now c).op + 1) := by unfold keyE; rw [k2, k3]
  have pe : placesE es (keyE e) = [] := by
    refine List.filter_eq_nil_iff.2 (fun p hp z => ?_)
    unfold isAt at z
    have hg : es[p]? = some (es[p]'(List.mem_range.1 hp)) := List.getElem?_eq_getElem _
    rw [hg] at z
    have z := of_decide_eq_true z
    obtain ⟨c', c1, c2, c3⟩ := h.mem _ (List.mem_of_getElem? hg)
    rw [ke] at z
    have z1 := congrArg Prod.fst z
    have z2 := congrArg Prod.snd z
    unfold keyE at z1 z2
    simp at z1 z2
    have : c' = c := by omega
    subst this
    omega
  have csl : cs.length = (invE es).length := by
    have := congrArg List.length h.cs
    rw [List.length_map] at this
    rw [this]
    unfold callsE
    rw [List.length_map]
  refine ⟨chk_snoc h.ck hf ?_, fun c' hc' ho' => ?_, fun c' hc' ho' => ?_, fun c' hc' => ?_, fun x hx => ?_, ?_, by rw [List.length_append, h.len]; rfl⟩
  · rw [k2]
    unfold mayF
    rw [if_pos k1, k3]
    rcases h.off c hc ho with ⟨z1, z2⟩ | ⟨x, z1, z2, z3⟩
    · rw [z1, z2]
      simp
    · rw [z1]
      simp [z2, z3]
  · unfold setB at ho' ⊢
    by_cases e1 : c' = c
    · subst e1
      rw [if_pos rfl]
      refine ⟨e, es.length, ?_, k1, k3, rfl, rfl, ?_, get_new es e, ?_⟩
      · rw [lastM_snoc, k2]
        unfold upd
        rw [if_pos rfl]
      · rw [← ke, places_snoc, if_pos rfl, pe]
        rfl
      · rw [inv_snoc, if_pos k1]
        show (invE es ++ [es.length])[cs.length]? = some es.length
        rw [csl, List.getElem?_append_right (Nat.le_refl _), Nat.sub_self]
        rfl
    · rw [if_neg e1] at ho' ⊢
      obtain ⟨x, p, q1, q2, q3, q4, q5, q6, q7, q8⟩ := h.on c' hc' ho'
      refine ⟨x, p, ?_, q2, q3, q4, q5, ?_, ?_, ?_⟩
      · rw [lastM_snoc, k2]
        unfold upd
        rw [if_neg (by omega)]
        exact q1
      · rw [places_snoc, if_neg (by rw [ke]; intro z; have := congrArg Prod.fst z; simp at this; omega)]
        exact q6
      · rw [get_old (List.getElem?_eq_some_iff.1 q7).1]
        exact q7
      · rw [inv_snoc, if_pos k1, List.getElem?_append_left (List.getElem?_eq_some_iff.1 q8).1]
        exact q8
  · unfold setB at ho' ⊢
    by_cases e1 : c' = c
    · rw [if_pos e1] at ho'
      cases ho'
    · rw [if_neg e1] at ho' ⊢
      have hl : lastM (es ++ [e]) noM ((c' : Int) + 1) = lastM es noM ((c' : Int) + 1) := by
        rw [lastM_snoc, k2]
        unfold upd
        rw [if_neg (by omega)]
      rw [hl]
      exact h.off c' hc' ho'
  · unfold setB
    have q := h.op c' hc'
    by_cases e1 : c' = c
    · rw [if_pos e1]
      subst e1
      show 0 ≤ (now c').op + 1 ∧ (now c').op + 1 ≤ _
      omega
    · rw [if_neg e1]
      omega
  · unfold setB
    rcases List.mem_append.1 hx with z | z
    · obtain ⟨c', q1, q2, q3⟩ := h.mem x z
      refine ⟨c', q1, q2, ?_⟩
      by_cases e1 : c' = c
      · rw [if_pos e1]
        subst e1
        show x.op ≤ (now c').op + 1
        omega
      · rw [if_neg e1]
        exact q3
    · rw [List.mem_singleton] at z
      refine ⟨c, hc, by rw [z]; exact k2, ?_⟩
      rw [if_pos rfl, z, k3]
      exact Int.le_refl _
  · rw [List.map_append, h.cs, calls_begin k1 pe]
    rfl
theorem RI.at {es : List Ev} {cs : List Cc} {now : Nat → Bz} {i : Nat} (h : RI es cs now i) {c : Nat} (hc : c < 5) (ho : (now c).on = true) : ∃ x p, es[p]? = some x ∧ x.client = (c : Int) + 1 ∧ x.op = (now c).op ∧ x.put = (now c).put ∧ x.key = (now c).key ∧ p < i ∧ cs[(now c).at_]? = some (beginC x p) ∧ placesE es ((c : Int) + 1, (now c).op) = [p] ∧ (invE es)[(now c).at_]? = some p ∧ lastM es noM ((c : Int) + 1) = some x ∧ x.kind = 1 := by
  obtain ⟨x, p, q1, q2, q3, q4, q5, q6, q7, q8⟩ := h.on c hc ho
  have hk : keyE x = ((c : Int) + 1, (now c).op) := by
    have hm : p ∈ placesE es ((c : Int) + 1, (now c).op) := by rw [q6]; simp
    have := (List.mem_filter.1 hm).2
    unfold isAt at this
    rw [q7] at this
    exact of_decide_eq_true this
  refine ⟨x, p, q7, congrArg Prod.fst hk, q3, q4, q5, ?_, ?_, q6, q8, q1, q2⟩
  · rw [← h.len]
    exact (List.getElem?_eq_some_iff.1 q7).1
  · have e1 : (cs.map some)[(now c).at_]? = some (callP es [p]) := by
      rw [h.cs]
      unfold callsE
      rw [List.getElem?_map, q8]
      show some (callP es (placesE es (keyAt es p))) = _
      have : keyAt es p = ((c : Int) + 1, (now c).op) := by
        unfold keyAt
        rw [q7]
        exact hk
      rw [this, q6]
    have e2 : callP es [p] = some (beginC x p) := by
      show (es[p]?).map _ = _
      rw [q7]
      rfl
    rw [e2, List.getElem?_map] at e1
    obtain ⟨y, hy, e3⟩ := Option.map_eq_some_iff.1 e1
    rw [hy]
    exact e3
theorem RI.finish {es : List Ev} {cs : List Cc} {now : Nat → Bz} {i : Nat} (h : RI es cs now i) {c : Nat} (hc : c < 5) (ho : (now c).on = true) {e : Ev} (k1 : ¬ e.kind = 1) (k2 : e.client = (c : Int) + 1) (k3 : e.op = (now c).op) (k4 : e.put = (now c).put) (k5 : e.key = (now c).key) (hf : faultE e = 0) {d : Cc} (hd : cs[(now c).at_]? = some d) : RI (es ++ [e]) (cs.set (now c).at_ (endC d e es.length)) (setB now c { now c with on := false }) (i + 1) := by
  obtain ⟨x, p, q1, q2, q3, q4, q5, q6, q7, q8, q9, q10, q11⟩ := h.at hc ho
  have ke : keyE e = ((c : Int) + 1, (now c).op) := by unfold keyE; rw [k2, k3]
  refine ⟨chk_snoc h.ck hf ?_, fun c' hc' ho' => ?_, fun c' hc' ho' => ?_, fun c' hc' => ?_, fun y hy => ?_, ?_, by rw [List.length_append, h.len]; rfl⟩
  · rw [k2, q10]
    unfold mayF
    rw [if_neg k1]
    simp [q11, k3, q3, k4, q4, k5, q5]
  · unfold setB at ho' ⊢
    by_cases e1 : c' = c
    · rw [if_pos e1] at ho'
      cases ho'
    · rw [if_neg e1] at ho' ⊢
      obtain ⟨y, r, r1, r2, r3, r4, r5, r6, r7, r8⟩ := h.on c' hc' ho'
      refine ⟨y, r, ?_, r2, r3, r4, r5, ?_, ?_, ?_⟩
      · rw [lastM_snoc, k2]
        unfold upd
        rw [if_neg (by omega)]
        exact r1
      · rw [places_snoc, if_neg (by rw [ke]; intro z; have := congrArg Prod.fst z; simp at this; omega)]
        exact r6
      · rw [get_old (List.getElem?_eq_some_iff.1 r7).1]
        exact r7
      · rw [inv_snoc, if_neg k1]
        exact r8
  · unfold setB at ho' ⊢
    by_cases e1 : c' = c
    · subst e1
      rw [if_pos rfl]
      refine .inr ⟨e, ?_, k1, k3⟩
      rw [lastM_snoc, k2]
      unfold upd
      rw [if_pos rfl]
    · rw [if_neg e1] at ho' ⊢
      have hl : lastM (es ++ [e]) noM ((c' : Int) + 1) = lastM es noM ((c' : Int) + 1) := by
        rw [lastM_snoc, k2]
        unfold upd
        rw [if_neg (by omega)]
      rw [hl]
      exact h.off c' hc' ho'
  · unfold setB
    have q := h.op c' hc'
    by_cases e1 : c' = c
    · rw [if_pos e1]
      subst e1
      show 0 ≤ (now c').op ∧ (now c').op ≤ _
      omega
    · rw [if_neg e1]
      omega
  · unfold setB
    rcases List.mem_append.1 hy with z | z
    · obtain ⟨c', r1, r2, r3⟩ := h.mem y z
      refine ⟨c', r1, r2, ?_⟩
      by_cases e1 : c' = c
      · rw [if_pos e1]
        subst e1
        exact r3
      · rw [if_neg e1]
        exact r3
    · rw [List.mem_singleton] at z
      refine ⟨c, hc, by rw [z]; exact k2, ?_⟩
      rw [if_pos rfl, z, k3]
      exact Int.le_refl _
  · have e3 : d = beginC x p := by
      rw [q7] at hd
      exact (Option.some.inj hd).symm
    rw [List.map_set, h.cs, calls_end k1 (by rw [ke]; exact q8) q1 q9, e3]
end Go.Proofs.YtbangbobfeflcaaDoor
