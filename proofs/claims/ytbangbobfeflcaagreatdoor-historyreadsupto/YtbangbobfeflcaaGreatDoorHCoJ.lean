import Derived.Test.YtbangbobfeflcaaGreatDoorHFb
import Derived.DeepKeys4
import Derived.Maps.Keyed
import Derived.Deep.Cut
import Derived.Test.YtbangbobfeflcaaGreatDoorHEvJ
import Derived.Laws.Rows
import Derived.Deep.RegionHeldLaw
import Derived.BigQuiet
import Derived.Laws.Tables
namespace Go.Proofs.YtbangbobfeflcaaGreatDoor
open Go.RowKit 

theorem ba_loop (b : ByteArray) : ∀ k i r, b.size - i = k → ByteArray.toList.loop b i r = r.reverse ++ b.data.toList.drop i := by
  have hl : b.data.toList.length = b.size := by rw [Array.length_toList]; rfl
  intro k
  induction k with
  | zero =>
    intro i r h
    unfold ByteArray.toList.loop
    rw [if_neg (by omega), List.drop_eq_nil_of_le (by omega)]
    simp
  | succ k ih =>
    intro i r h
    unfold ByteArray.toList.loop
    rw [if_pos (by omega), ih (i+1) _ (by omega), List.drop_eq_getElem_cons (i := i) (by omega)]
    have e : b.get! i = b.data.toList[i]'(by omega) := by
      have hs : i < b.data.size := by
        have : b.size = b.data.size := rfl
        omega
      show b.data[i]! = _
      rw [getElem!_pos b.data i hs]
      simp
    rw [e]
    simp
theorem ba_toList (b : ByteArray) : b.toList = b.data.toList := by
  unfold ByteArray.toList
  rw [ba_loop b _ 0 [] rfl]
  simp
/-- What lies in a map of events: the cells alone. -/
structure Ec where
  kind : Int
  client : Int
  op : Int
  put : Bool
  key : ByteArray
  va : Option Addr
  vn : Nat
  vc : Nat
  st : Int
  tx : Int
  ty : Int
def Ec.agg (e : Ec) : Value := .agg #[.int .i64 e.kind, .int .i64 e.client, .int .i64 e.op, .bool e.put, .string e.key, .slice e.va e.vn e.vc, .int .i64 e.st, .int .i64 e.tx, .int .i64 e.ty]
def Ev.ec (e : Ev) : Ec := ⟨e.kind, e.client, e.op, e.put, e.key, e.va, e.vn, e.vc, e.st, e.tx, e.ty⟩
theorem Ec.inj {a b : Ec} (h : a.agg = b.agg) : a = b := by
  obtain ⟨a1, a2, a3, a4, a5, a6, a7, a8, a9, a10, a11⟩ := a
  obtain ⟨b1, b2, b3, b4, b5, b6, b7, b8, b9, b10, b11⟩ := b
  unfold Ec.agg at h
  simp at h
  obtain ⟨rfl, rfl, rfl, rfl, rfl, ⟨rfl, rfl, rfl⟩, rfl, rfl, rfl⟩ := h
  rfl
def KI (k : Int) : Prop := -9223372036854775808 ≤ k ∧ k < 9223372036854775808
def isEc : List Value → Bool
  | [.int .i64 _, .int .i64 _, .int .i64 _, .bool _, .string _, .slice _ _ _, .int .i64 _, .int .i64 _, .int .i64 _] => true
  | _ => false
def RE (v : Value) : Option (DataW Value × List MemPlace) :=
  match v with
  | .agg cs => if isEc cs.toList = true then some (.held v, []) else none
  | _ => none
/-- A map from clients to events in memory. -/
structure IsE (w : World) (mb : Nat) (M : Int → Option Ec) (bd : Nat) : Prop where
  tm : ∃ n, TM 3 (Lit.int .i64) KI Ec.agg RE w mb n M ∧ n ≤ bd
theorem IsE.kept {S : Nat → Prop} {w w' : World} {mb bd : Nat} {M : Int → Option Ec} (h : IsE w mb M bd) (K : Kept S w w') (hn : ¬ S mb) : IsE w' mb M bd := by
  obtain ⟨n, h1, h2⟩ := h.tm
  exact ⟨n, h1.kept K hn, h2⟩
end Go.Proofs.YtbangbobfeflcaaGreatDoor

namespace Go.Proofs.YtbangbobfeflcaaGreatDoor
open Go.RowKit 

def opL (k : Int × Int) : Lit := .string (keyBytes [.int .i64 k.1, .int .i64 k.2])
def opF (k : Int × Int) : Prop := KI k.1 ∧ KI k.2
/-- A slice, as a map holds it. -/
structure Sl where
  p : Option Addr
  n : Nat
  c : Nat
def Sl.v (s : Sl) : Value := .slice s.p s.n s.c
def RSl (v : Value) : Option (DataW Value × List MemPlace) :=
  match v with
  | .slice _ _ _ => some (.held v, [])
  | _ => none
end Go.Proofs.YtbangbobfeflcaaGreatDoor

namespace Go.Proofs.YtbangbobfeflcaaGreatDoor
open Go.RowKit 

/-- How Check stands. -/
structure CS (w : World) (es : List Ev) (mb i : Nat) (M : Int → Option Ev) (wr : World) : Prop where
  map : IsE wr mb (fun c => (M c).map Ev.ec) i
  kept : Kept (fun _ => False) w wr
  run : chkE es noM 0 = chkE (es.drop i) M i
  ops : ∀ c x, M c = some x → 0 ≤ x.op ∧ x.op ≤ 4611686018427387903
def RetI2 (Q : Int → Int → World → Prop) (o : Ending) (w : World) : Prop := ∃ a b : Int, o = .returned (.tuple #[.int .i64 a, .int .i64 b]) ∧ Q a b w
theorem RetI2.mk {Q : Int → Int → World → Prop} {o : Ending} {w : World} (a b : Int) (h : o = .returned (.tuple #[.int .i64 a, .int .i64 b])) (q : Q a b w) : RetI2 Q o w := ⟨a, b, h, q⟩
end Go.Proofs.YtbangbobfeflcaaGreatDoor

namespace Go.Proofs.YtbangbobfeflcaaGreatDoor
open Go.RowKit 

/-- A call, as it is told. -/
structure Cc where
  client : Int
  op : Int
  put : Bool
  key : ByteArray
  val : List Nat
  st : Int
  frm : Int
  too : Int
  opn : Bool
  tx : Int
  ty : Int
def keyE (e : Ev) : Int × Int := (e.client, e.op)
def isAt (es : List Ev) (k : Int × Int) (i : Nat) : Bool := match es[i]? with | some e => decide (keyE e = k) | none => false
/-- The places of an operation's events. -/
def placesE (es : List Ev) (k : Int × Int) : List Nat := (List.range es.length).filter (isAt es k)
def isInv (es : List Ev) (i : Nat) : Bool := match es[i]? with | some e => decide (e.kind = 1) | none => false
def invE (es : List Ev) : List Nat := (List.range es.length).filter (isInv es)
def beginC (b : Ev) (p : Nat) : Cc := ⟨b.client, b.op, b.put, b.key, b.val, 0, (p : Int), -1, b.put, 0, 0⟩
def endC (c : Cc) (x : Ev) (q : Nat) : Cc :=
  if x.kind = 3 then { c with st := 77, tx := x.tx, ty := x.ty }
  else if c.put = false then { c with st := x.st, tx := x.tx, ty := x.ty, too := (q : Int), val := x.val }
  else if x.st = 0 then { c with st := x.st, tx := x.tx, ty := x.ty, too := (q : Int), opn := false }
  else { c with st := x.st, tx := x.tx, ty := x.ty }
/-- The call whose events stand at these places. -/
def callP (es : List Ev) : List Nat → Option Cc
  | [] => none
  | [p] => (es[p]?).map fun b => beginC b p
  | p :: q :: _ => match es[p]?, es[q]? with | some b, some x => some (endC (beginC b p) x q) | _, _ => none
def keyAt (es : List Ev) (i : Nat) : Int × Int := match es[i]? with | some e => keyE e | none => (0, 0)
def callsE (es : List Ev) : List (Option Cc) := (invE es).map fun i => callP es (placesE es (keyAt es i))
theorem get_old {es : List Ev} {e : Ev} {i : Nat} (h : i < es.length) : (es ++ [e])[i]? = es[i]? := List.getElem?_append_left h
theorem get_new (es : List Ev) (e : Ev) : (es ++ [e])[es.length]? = some e := by rw [List.getElem?_append_right (Nat.le_refl _), Nat.sub_self]; rfl
theorem places_snoc (es : List Ev) (e : Ev) (k : Int × Int) : placesE (es ++ [e]) k = if keyE e = k then placesE es k ++ [es.length] else placesE es k := by
  unfold placesE
  rw [List.length_append, List.length_singleton, List.range_succ, List.filter_append]
  have e1 : (List.range es.length).filter (isAt (es ++ [e]) k) = (List.range es.length).filter (isAt es k) := by
    refine List.filter_congr (fun i hi => ?_)
    unfold isAt
    rw [get_old (List.mem_range.1 hi)]
  have e2 : isAt (es ++ [e]) k es.length = decide (keyE e = k) := by
    unfold isAt
    rw [get_new]
  rw [e1]
  by_cases h : keyE e = k
  · rw [if_pos h, List.filter_cons_of_pos (by rw [e2, decide_eq_true h])]
    rfl
  · rw [if_neg h, List.filter_cons_of_neg (by rw [e2, decide_eq_false h]; decide)]
    simp
/-- What a client has under way. -/
structure Bz where
  on : Bool
  op : Int
  at_ : Nat
  put : Bool
  key : ByteArray
structure RI (es : List Ev) (cs : List Cc) (now : Nat → Bz) (i : Nat) : Prop where
  ck : chkE es noM 0 = (-1, 0)
  on : ∀ c : Nat, c < 5 → (now c).on = true → ∃ x p, lastM es noM ((c : Int) + 1) = some x ∧ x.kind = 1 ∧ x.op = (now c).op ∧ x.put = (now c).put ∧ x.key = (now c).key ∧ placesE es ((c : Int) + 1, (now c).op) = [p] ∧ es[p]? = some x ∧ (invE es)[(now c).at_]? = some p
  off : ∀ c : Nat, c < 5 → (now c).on = false → (lastM es noM ((c : Int) + 1) = none ∧ (now c).op = 0) ∨ ∃ x, lastM es noM ((c : Int) + 1) = some x ∧ ¬ x.kind = 1 ∧ x.op = (now c).op
  op : ∀ c : Nat, c < 5 → 0 ≤ (now c).op ∧ (now c).op ≤ (i : Int)
  mem : ∀ e ∈ es, ∃ c : Nat, c < 5 ∧ e.client = (c : Int) + 1 ∧ e.op ≤ (now c).op
  cs : cs.map some = callsE es
  len : es.length = i
theorem RI.start (now : Nat → Bz) (h : ∀ c, (now c).on = false ∧ (now c).op = 0) : RI [] [] now 0 :=
  ⟨rfl, fun c _ z => (by rw [(h c).1] at z; cases z), fun c _ _ => .inl ⟨rfl, (h c).2⟩, fun c _ => (by rw [(h c).2]; omega), fun e he => (by cases he), rfl, rfl⟩
theorem RI.at {es : List Ev} {cs : List Cc} {now : Nat → Bz} {i : Nat} (h : RI es cs now i) {c : Nat} (hc : c < 5) (ho : (now c).on = true) : ∃ x p, es[p]? = some x ∧ x.client = (c : Int) + 1 ∧ x.op = (now c).op ∧ x.put = (now c).put ∧ x.key = (now c).key ∧ p < i ∧ cs[(now c).at_]? = some (beginC x p) ∧ placesE es ((c : Int) + 1, (now c).op) = [p] ∧ (invE es)[(now c).at_]? = some p ∧ lastM es noM ((c : Int) + 1) = some x ∧ x.kind = 1 := by
  obtain ⟨x, p, q1, q2, q3, q4, q5, q6, q7, q8⟩ := h.on c hc ho
  have hk : keyE x = ((c : Int) + 1, (now c).op) := by
    have hm : p ∈ placesE es ((c : Int) + 1, (now c).op) := by rw [q6]; simp
    have := (List.mem_filter.1 hm).2
    unfold isAt at this
    rw [q7] at this
    exact of_decide_eq_true this
  refine ⟨x, p, q7, congrArg Prod.fst hk, q3, q4, q5, ?_, ?_, q6, q8, q1, q2⟩
  · rw [← h.len]
    exact (List.getElem?_eq_some_iff.1 q7).1
  · have e1 : (cs.map some)[(now c).at_]? = some (callP es [p]) := by
      rw [h.cs]
      unfold callsE
      rw [List.getElem?_map, q8]
      show some (callP es (placesE es (keyAt es p))) = _
      have : keyAt es p = ((c : Int) + 1, (now c).op) := by
        unfold keyAt
        rw [q7]
        exact hk
      rw [this, q6]
    have e2 : callP es [p] = some (beginC x p) := by
      show (es[p]?).map _ = _
      rw [q7]
      rfl
    rw [e2, List.getElem?_map] at e1
    obtain ⟨y, hy, e3⟩ := Option.map_eq_some_iff.1 e1
    rw [hy]
    exact e3
end Go.Proofs.YtbangbobfeflcaaGreatDoor

namespace Go.Proofs.YtbangbobfeflcaaGreatDoor
open Go.RowKit 

def intsN (R : List Nat) : List Value := R.map fun r : Nat => .int .i64 (r : Int)
theorem intsN_append (a b : List Nat) : intsN (a ++ b) = intsN a ++ intsN b := by unfold intsN; rw [List.map_append]
/-- The places by operation, in memory, of the first i events. -/
structure GS (w : World) (es : List Ev) (mb i : Nat) (wr : World) : Prop where
  ok : ∃ (n : Nat) (Mp : Int × Int → Option Sl), TM 78 opL opF Sl.v RSl wr mb n Mp ∧ n ≤ i ∧ (∀ k, Mp k = none → placesE (es.take i) k = []) ∧ (∀ k s, Mp k = some s → wr.ownsRow w.heap.size 3 1 (.slice s.p s.n s.c) s.n (intsN (placesE (es.take i) k)) ∧ s.n = (placesE (es.take i) k).length ∧ ¬ blockOf s.p = some mb ∧ 0 < s.n) ∧ (∀ k k' s s' j, Mp k = some s → Mp k' = some s' → k ≠ k' → blockOf s.p = some j → ¬ blockOf s'.p = some j)
  kept : Kept (fun _ => False) w wr
  mb : w.heap.size ≤ mb ∧ mb < wr.heap.size
end Go.Proofs.YtbangbobfeflcaaGreatDoor

namespace Go.Proofs.YtbangbobfeflcaaGreatDoor
open Go.RowKit 

theorem Kept.own {w w' w'' : World} {S : Nat → Prop} (h : Kept (fun _ => False) w w') (k : Kept S w' w'') (hs : ∀ b, S b → w.heap.size ≤ b) : Kept (fun _ => False) w w'' := h.trans k (fun j hj z => by have := hs j z; omega)
theorem GS.step {w wr Y w9 w10 : World} {es : List Ev} {mb i n : Nat} {Mp : Int × Int → Option Sl} {e : Ev} {s : Sl} {p9 : Option Addr} {c9 : Nat} (hn : n ≤ i) (h1 : ∀ k, Mp k = none → placesE (es.take i) k = []) (h2 : ∀ k s, Mp k = some s → wr.ownsRow w.heap.size 3 1 (.slice s.p s.n s.c) s.n (intsN (placesE (es.take i) k)) ∧ s.n = (placesE (es.take i) k).length ∧ ¬ blockOf s.p = some mb ∧ 0 < s.n) (h3 : ∀ k k' s s' j, Mp k = some s → Mp k' = some s' → k ≠ k' → blockOf s.p = some j → ¬ blockOf s'.p = some j)
    (K0 : Kept (fun _ => False) w wr) (hmb : w.heap.size ≤ mb ∧ mb < wr.heap.size) (KY : Kept (fun _ => False) wr Y) (he : es[i]? = some e) (hs : s = (Mp (keyE e)).getD ⟨none, 0, 0⟩)
    (ho : w9.ownsRow w.heap.size 3 1 (.slice p9 (s.n + 1) c9) (s.n + 1) (intsN (placesE (es.take i) (keyE e)) ++ intsN [i])) (hg : Y.grownBy w9 (Value.slice s.p s.n s.c).ownBlock) (hn9 : (Value.slice p9 (s.n + 1) c9).ownBlock = (Value.slice s.p s.n s.c).ownBlock ∨ ((Value.slice p9 (s.n + 1) c9).ownBlock = some Y.heap.size ∧ Y.grownBy w9 none))
    (tm : TM 78 opL opF Sl.v RSl w10 mb (nput n Mp (keyE e)) (upd Mp (keyE e) ⟨p9, s.n + 1, c9⟩)) (KT : Kept (fun j => j = mb) w9 w10) : GS w es mb (i + 1) w10 := by
  have hil := (List.getElem?_eq_some_iff.1 he).1
  have et : es.take (i + 1) = es.take i ++ [e] := by rw [List.take_add_one, he]; rfl
  have tl : (es.take i).length = i := by rw [List.length_take]; omega
  have KG : Kept (fun j => blockOf s.p = some j) Y w9 := (Kept.refl _ Y).grown hg (fun j _ z => by rw [blockOf_own] at z; exact z)
  rw [blockOf_own, blockOf_own] at hn9
  have sY := KY.size
  have sG := KG.size
  have sT := KT.size
  have sn : s.n = (placesE (es.take i) (keyE e)).length ∧ ¬ blockOf s.p = some mb ∧ ∀ j, blockOf s.p = some j → Mp (keyE e) = some s := by
    cases hq : Mp (keyE e) with
    | none =>
      rw [hq] at hs
      rw [hs, h1 _ hq]
      exact ⟨rfl, fun z => (by cases z), fun j z => (by cases z)⟩
    | some s' =>
      rw [hq] at hs
      have hs : s = s' := hs
      rw [hs]
      exact ⟨(h2 _ _ hq).2.1, (h2 _ _ hq).2.2.1, fun _ _ => rfl⟩
  have p9b : ∀ j, blockOf p9 = some j → (blockOf s.p = some j) ∨ j = Y.heap.size := by
    intro j z
    rcases hn9 with q | ⟨q, _⟩
    · left
      rw [← q]
      exact z
    · right
      rw [q] at z
      exact (Option.some.inj z).symm
  have p9mb : ¬ blockOf p9 = some mb := fun z => by
    rcases p9b mb z with q | q
    · exact sn.2.1 q
    · omega
  refine ⟨⟨_, _, tm, ?_, fun k hk => ?_, fun k t hk => ?_, fun k k' t t' j hk hk' ne z y => ?_⟩, ?_, hmb.1, by omega⟩
  · unfold nput
    split <;> omega
  · unfold upd at hk
    split at hk
    · cases hk
    · rename_i ne
      rw [et, places_snoc, if_neg (fun z => ne z.symm)]
      exact h1 k hk
  · unfold upd at hk
    split at hk
    · rename_i ek
      have ev := Option.some.inj hk
      subst ev
      subst ek
      rw [et, places_snoc, if_pos rfl, tl, intsN_append]
      refine ⟨KT.owns ho (fun j z y => ?_), ?_, p9mb, Nat.succ_pos _⟩
      · rw [blockOf_own] at z
        have y : j = mb := y
        rw [y] at z
        exact p9mb z
      · rw [List.length_append]
        show s.n + 1 = _
        rw [sn.1]
        rfl
    · rename_i ne
      rw [et, places_snoc, if_neg (fun z => ne z.symm)]
      obtain ⟨r1, r2, r3, r4⟩ := h2 k t hk
      refine ⟨KT.owns (KG.owns (KY.owns r1 (fun _ _ z => z)) (fun j z y => ?_)) (fun j z y => ?_), r2, r3, r4⟩
      · rw [blockOf_own] at z
        exact h3 k (keyE e) t s j hk (sn.2.2 j y) ne z y
      · rw [blockOf_own] at z
        have y : j = mb := y
        rw [y] at z
        exact r3 z
  · unfold upd at hk hk'
    split at hk
    · rename_i e1
      split at hk'
      · rename_i e2
        exact ne (e1.trans e2.symm)
      · rename_i e2
        have ev := Option.some.inj hk
        subst ev
        rcases p9b j z with q | q
        · exact h3 (keyE e) k' s t' j (sn.2.2 j q) hk' (fun u => e2 u.symm) q y
        · have := (own_lt (h2 k' t' hk').1 j y).2
          omega
    · rename_i e1
      split at hk'
      · have ev := Option.some.inj hk'
        subst ev
        rcases p9b j y with q | q
        · exact h3 k (keyE e) t s j hk (sn.2.2 j q) e1 z q
        · have := (own_lt (h2 k t hk).1 j z).2
          omega
      · exact h3 k k' t t' j hk hk' ne z y
  · refine (Kept.own (K0.trans KY (fun _ _ z => z)) KG (fun j z => ?_)).trans KT (fun j hj z => ?_)
    · exact (own_lt (h2 _ _ (sn.2.2 j z)).1 j z).1
    · have z : j = mb := z
      omega
end Go.Proofs.YtbangbobfeflcaaGreatDoor

namespace Go.Proofs.YtbangbobfeflcaaGreatDoor
open Go.RowKit 

end Go.Proofs.YtbangbobfeflcaaGreatDoor

namespace Go.Proofs.YtbangbobfeflcaaGreatDoor
open Go.RowKit 

def RetL (Q : Option Addr → Nat → World → Prop) (n : Nat) (o : Ending) (w : World) : Prop := ∃ p c, o = .returned (.slice p n c) ∧ Q p c w
theorem RetL.mk {Q : Option Addr → Nat → World → Prop} {n : Nat} {o : Ending} {w : World} (p : Option Addr) (c : Nat) (h : o = .returned (.slice p n c)) (hq : Q p c w) : RetL Q n o w := ⟨p, c, h, hq⟩
theorem reads_own {w : World} {base n : Nat} {p : Option Addr} {c : Nat} {l : List Nat} (h : w.ownsRow base 5 1 (.slice p n c) n (cellsOf l)) (hb : ∀ x ∈ l, x < 256) : Reads w p n c l := by
  obtain ⟨a', cap', e', rd, _⟩ := owns_reads h hb
  simp at e'
  obtain ⟨rfl, rfl⟩ := e'
  exact rd
end Go.Proofs.YtbangbobfeflcaaGreatDoor

namespace Go.Proofs.YtbangbobfeflcaaGreatDoor
open Go.RowKit 

theorem str_inj {l m : List Nat} (hl : ∀ c ∈ l, c < 256) (hm : ∀ c ∈ m, c < 256) (h : str l = str m) : l = m := by
  unfold str at h
  have h : (l.map UInt8.ofNat).toArray = (m.map UInt8.ofNat).toArray := congrArg ByteArray.data h
  have h : l.map UInt8.ofNat = m.map UInt8.ofNat := by simpa using h
  have inj : ∀ (l m : List Nat), (∀ c ∈ l, c < 256) → (∀ c ∈ m, c < 256) → l.map UInt8.ofNat = m.map UInt8.ofNat → l = m := by
    intro l
    induction l with
    | nil => intro m _ _ h; cases m with
      | nil => rfl
      | cons b m => simp at h
    | cons a l ih =>
      intro m hl hm h
      cases m with
      | nil => simp at h
      | cons b m =>
        rw [List.map_cons, List.map_cons] at h
        injection h with h1 h2
        have ha := hl a (by simp)
        have hb := hm b (by simp)
        have e : a = b := by
          have := congrArg UInt8.toNat h1
          simp at this
          omega
        rw [e, ih m (fun c hc => hl c (by simp [hc])) (fun c hc => hm c (by simp [hc])) h2]
  exact inj l m hl hm h
theorem str_eq {l m : List Nat} (hl : ∀ c ∈ l, c < 256) (hm : ∀ c ∈ m, c < 256) : ((str l).toList == (str m).toList) = decide (l = m) := by
  by_cases h : l = m
  · rw [h, decide_eq_true rfl]
    exact beq_self_eq_true _
  · rw [decide_eq_false h]
    refine beq_false_of_ne fun z => h (str_inj hl hm ?_)
    rw [ba_toList, ba_toList] at z
    have : (str l).data = (str m).data := Array.toList_inj.1 z
    cases hs : str l
    cases ht : str m
    rw [hs, ht] at this
    exact congrArg ByteArray.mk this
theorem hSame {w : World} {a b : Option Addr} {n c m e : Nat} {l k : List Nat} (h1 : Reads w a n c l) (h2 : Reads w b m e k) : Calls Tryz.prog 28 #[.slice a n c, .slice b m e] w fun o w' => o = .returned (.bool (decide (l = k))) ∧ Kept (fun _ => False) w w' := by
  have c1 := h1.string
  have c2 := h2.string
  obtain ⟨q, hq⟩ : ∃ q, q = decide (l = k) := ⟨_, rfl⟩
  have e1 : ((str l).toList == (str k).toList) = q := by rw [hq]; exact str_eq h1.bytes h2.bytes
  rw [← hq]
  clear h1 h2 hq
  go_enter Tryz.func28, Tryz.ntmps28
  go_wp2_with fail
  go_ret
  exact ⟨by first | rfl | simp, Kept.refl _ _⟩
end Go.Proofs.YtbangbobfeflcaaGreatDoor

namespace Go.Proofs.YtbangbobfeflcaaGreatDoor
open Go.RowKit 

/-- A call, with the bytes that it leads to. -/
structure Ca where
  client : Int
  op : Int
  put : Bool
  key : ByteArray
  va : Option Addr
  vn : Nat
  vc : Nat
  st : Int
  frm : Int
  too : Int
  opn : Bool
  tx : Int
  ty : Int
  val : List Nat
def Ca.cs (c : Ca) : Array Value := #[.int .i64 c.client, .int .i64 c.op, .bool c.put, .string c.key, .slice c.va c.vn c.vc, .int .i64 c.st, .int .i64 c.frm, .int .i64 c.too, .bool c.opn, .int .i64 c.tx, .int .i64 c.ty]
def zeroK : Array Value := #[.int .i64 0, .int .i64 0, .bool false, .string ⟨#[]⟩, .slice none 0 0, .int .i64 0, .int .i64 0, .int .i64 0, .bool false, .int .i64 0, .int .i64 0]
theorem kept_row {S : Nat → Prop} {a b : World} (h : Kept S a b) {g : Nat} (cs : Array Value) (hg : g < a.heap.size → S g) : Kept S a (b.setRow g cs) :=
  ⟨h.os, h.tape, h.output, by rw [size_setRow]; exact h.size, fun i hi hn => by
    rw [setRow_other b g i cs (fun z => hn (by rw [z] at hi ⊢; exact hg hi))]
    exact h.block i hi hn⟩
/-- The call on its way: it lies in a box, what is answered in another. -/
structure CO (w W6 : World) (B4 B6 : Nat) (c : Ca) : Prop where
  b6 : W6.heap[B6]? = some (.cells c.cs 58 (0, 0))
  b4 : W6.heap[B4]? = some (.cells zeroK 58 (0, 0))
  kept : Kept (fun _ => False) w W6
  row : W6.ownsRow w.heap.size 5 1 (.slice c.va c.vn c.vc) c.vn (cellsOf c.val)
  ne : B6 ≠ B4 ∧ w.heap.size ≤ B6 ∧ w.heap.size ≤ B4
theorem CO.done {w W6 : World} {B4 B6 : Nat} {c : Ca} (h : CO w W6 B4 B6 c) : (W6.setRow B4 c.cs).heap[B4]? = some (.cells c.cs 58 (0, 0)) ∧ Kept (fun _ => False) w (W6.setRow B4 c.cs) ∧ (W6.setRow B4 c.cs).ownsRow w.heap.size 5 1 (.slice c.va c.vn c.vc) c.vn (cellsOf c.val) := by
  refine ⟨setRow_heap W6 B4 _ _ 58 (0, 0) h.b4, kept_row h.kept _ (fun z => by have := h.ne.2.2; omega), ?_⟩
  refine (kept_row (Kept.refl (fun j => j = B4) W6) c.cs (fun _ => rfl)).owns h.row (fun j z y => ?_)
  rw [blockOf_own] at z
  obtain ⟨cs, q⟩ := own_type h.row j z
  have y : j = B4 := y
  rw [y, h.b4] at q
  simp at q
theorem CO.k0 {w W W' : World} {B4 B6 : Nat} {c : Ca} (h : CO w W B4 B6 c) (k : Kept (fun _ => False) W W') : CO w W' B4 B6 c := ⟨k.get h.b6 (fun z => z), k.get h.b4 (fun z => z), h.kept.trans k (fun _ _ z => z), k.owns h.row (fun _ _ z => z), h.ne⟩
theorem CO.set {w W : World} {B4 B6 : Nat} {c c' : Ca} (h : CO w W B4 B6 c) (k : Nat) (u : Value) (e1 : c'.cs = c.cs.setIfInBounds k u) (e2 : c'.va = c.va ∧ c'.vn = c.vn ∧ c'.vc = c.vc ∧ c'.val = c.val) : CO w (W.setCell ⟨B6, k, none⟩ u) B4 B6 c' := by
  refine ⟨by rw [e1]; exact set_heap h.b6 k u, by rw [set_other k u h.ne.1.symm]; exact h.b4, h.kept.setCell (p := ⟨B6, k, none⟩) (fun z => by have z : B6 < w.heap.size := z; have := h.ne.2.1; omega) u, ?_, h.ne⟩
  rw [e2.1, e2.2.1, e2.2.2.1, e2.2.2.2]
  refine ((Kept.refl (fun j => j = B6) W).setCell (p := ⟨B6, k, none⟩) (fun _ => rfl) u).owns h.row (fun j z y => ?_)
  rw [blockOf_own] at z
  obtain ⟨cs, q⟩ := own_type h.row j z
  have y : j = B6 := y
  rw [y, h.b6] at q
  simp at q
theorem CO.val {w V : World} {B4 B6 : Nat} {c : Ca} (h : CO w V B4 B6 c) {l : List Nat} {p : Option Addr} {n cc : Nat} (o2 : V.ownsRow w.heap.size 5 1 (.slice p n cc) n (cellsOf l)) : CO w (V.setCell ⟨B6, 4, none⟩ (.slice p n cc)) B4 B6 { c with va := p, vn := n, vc := cc, val := l } := by
  refine ⟨set_heap h.b6 4 _, by rw [set_other 4 _ h.ne.1.symm]; exact h.b4, h.kept.setCell (p := ⟨B6, 4, none⟩) (fun z => by have z : B6 < w.heap.size := z; have := h.ne.2.1; omega) _, ?_, h.ne⟩
  refine ((Kept.refl (fun j => j = B6) V).setCell (p := ⟨B6, 4, none⟩) (fun _ => rfl) _).owns o2 (fun j z y => ?_)
  rw [blockOf_own] at z
  obtain ⟨cs, r⟩ := own_type o2 j z
  have y : j = B6 := y
  rw [y, h.b6] at r
  simp at r
def RetCa (Q : Ca → World → Prop) (o : Ending) (w : World) : Prop := ∃ c : Ca, o = .returned (.agg c.cs) ∧ Q c w
theorem RetCa.mk {Q : Ca → World → Prop} {o : Ending} {w : World} (c : Ca) (h : o = .returned (.agg c.cs)) (q : Q c w) : RetCa Q o w := ⟨c, h, q⟩
end Go.Proofs.YtbangbobfeflcaaGreatDoor
