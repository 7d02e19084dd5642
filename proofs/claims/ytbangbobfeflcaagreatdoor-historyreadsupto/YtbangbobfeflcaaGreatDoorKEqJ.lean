import Derived.Test.YtbangbobfeflcaaGreatDoorHCoJ
import Derived.Test.YtbangbobfeflcaaGreatDoorHTkJ
import Derived.Deep.Cut
import Derived.BigQuiet
namespace Go.Proofs.YtbangbobfeflcaaGreatDoor
open Go.RowKit 

def isAtS (es : List Ev) (k : ByteArray) (i : Nat) : Bool := match es[i]? with | some e => decide (e.key = k) | none => false
/-- The places of a key's events. -/
def placesS (es : List Ev) (k : ByteArray) : List Nat := (List.range es.length).filter (isAtS es k)
theorem places_snocS (es : List Ev) (e : Ev) (k : ByteArray) : placesS (es ++ [e]) k = if e.key = k then placesS es k ++ [es.length] else placesS es k := by
  unfold placesS
  rw [List.length_append, List.length_singleton, List.range_succ, List.filter_append]
  have e1 : (List.range es.length).filter (isAtS (es ++ [e]) k) = (List.range es.length).filter (isAtS es k) := by
    refine List.filter_congr (fun i hi => ?_)
    unfold isAtS
    rw [get_old (List.mem_range.1 hi)]
  have e2 : isAtS (es ++ [e]) k es.length = decide (e.key = k) := by
    unfold isAtS
    rw [get_new]
  rw [e1]
  by_cases h : e.key = k
  · rw [if_pos h, List.filter_cons_of_pos (by rw [e2, decide_eq_true h])]
    rfl
  · rw [if_neg h, List.filter_cons_of_neg (by rw [e2, decide_eq_false h]; decide)]
    simp
def strL (s : ByteArray) : Lit := Lit.string s.data.toList
def strF (s : ByteArray) : Prop := s.size ≤ maxLen
/-- The places by key, in memory, of the first i events. -/
structure GT (w : World) (es : List Ev) (mb i : Nat) (wr : World) : Prop where
  ok : ∃ (n : Nat) (Mp : ByteArray → Option Sl), TM 9 strL strF Sl.v RSl wr mb n Mp ∧ n ≤ i ∧ (∀ k, Mp k = none → placesS (es.take i) k = []) ∧ (∀ k s, Mp k = some s → wr.ownsRow w.heap.size 3 1 (.slice s.p s.n s.c) s.n (intsN (placesS (es.take i) k)) ∧ s.n = (placesS (es.take i) k).length ∧ ¬ blockOf s.p = some mb ∧ 0 < s.n) ∧ (∀ k k' s s' j, Mp k = some s → Mp k' = some s' → k ≠ k' → blockOf s.p = some j → ¬ blockOf s'.p = some j)
  kept : Kept (fun _ => False) w wr
  mb : w.heap.size ≤ mb ∧ mb < wr.heap.size
theorem GT.step {w wr Y w9 w10 : World} {es : List Ev} {mb i n : Nat} {Mp : ByteArray → Option Sl} {e : Ev} {s : Sl} {p9 : Option Addr} {c9 : Nat} (hn : n ≤ i) (h1 : ∀ k, Mp k = none → placesS (es.take i) k = []) (h2 : ∀ k s, Mp k = some s → wr.ownsRow w.heap.size 3 1 (.slice s.p s.n s.c) s.n (intsN (placesS (es.take i) k)) ∧ s.n = (placesS (es.take i) k).length ∧ ¬ blockOf s.p = some mb ∧ 0 < s.n) (h3 : ∀ k k' s s' j, Mp k = some s → Mp k' = some s' → k ≠ k' → blockOf s.p = some j → ¬ blockOf s'.p = some j)
    (K0 : Kept (fun _ => False) w wr) (hmb : w.heap.size ≤ mb ∧ mb < wr.heap.size) (KY : Kept (fun _ => False) wr Y) (he : es[i]? = some e) (hs : s = (Mp (e.key)).getD ⟨none, 0, 0⟩)
    (ho : w9.ownsRow w.heap.size 3 1 (.slice p9 (s.n + 1) c9) (s.n + 1) (intsN (placesS (es.take i) (e.key)) ++ intsN [i])) (hg : Y.grownBy w9 (Value.slice s.p s.n s.c).ownBlock) (hn9 : (Value.slice p9 (s.n + 1) c9).ownBlock = (Value.slice s.p s.n s.c).ownBlock ∨ ((Value.slice p9 (s.n + 1) c9).ownBlock = some Y.heap.size ∧ Y.grownBy w9 none))
    (tm : TM 9 strL strF Sl.v RSl w10 mb (nput n Mp (e.key)) (upd Mp (e.key) ⟨p9, s.n + 1, c9⟩)) (KT : Kept (fun j => j = mb) w9 w10)   : GT w es mb (i + 1) w10 := by
  have hil := (List.getElem?_eq_some_iff.1 he).1
  have et : es.take (i + 1) = es.take i ++ [e] := by rw [List.take_add_one, he]; rfl
  have tl : (es.take i).length = i := by rw [List.length_take]; omega
  have KG : Kept (fun j => blockOf s.p = some j) Y w9 := (Kept.refl _ Y).grown hg (fun j _ z => by rw [blockOf_own] at z; exact z)
  rw [blockOf_own, blockOf_own] at hn9
  have sY := KY.size
  have sG := KG.size
  have sT := KT.size
  have sn : s.n = (placesS (es.take i) (e.key)).length ∧ ¬ blockOf s.p = some mb ∧ ∀ j, blockOf s.p = some j → Mp (e.key) = some s := by
    cases hq : Mp (e.key) with
    | none =>
      rw [hq] at hs
      rw [hs, h1 _ hq]
      exact ⟨rfl, fun z => (by cases z), fun j z => (by cases z)⟩
    | some s' =>
      rw [hq] at hs
      have hs : s = s' := hs
      rw [hs]
      exact ⟨(h2 _ _ hq).2.1, (h2 _ _ hq).2.2.1, fun _ _ => rfl⟩
  have p9b : ∀ j, blockOf p9 = some j → (blockOf s.p = some j) ∨ j = Y.heap.size := by
    intro j z
    rcases hn9 with q | ⟨q, _⟩
    · left
      rw [← q]
      exact z
    · right
      rw [q] at z
      exact (Option.some.inj z).symm
  have p9mb : ¬ blockOf p9 = some mb := fun z => by
    rcases p9b mb z with q | q
    · exact sn.2.1 q
    · omega
  refine ⟨⟨_, _, tm, ?_, fun k hk => ?_, fun k t hk => ?_, fun k k' t t' j hk hk' ne z y => ?_⟩, ?_, hmb.1, by omega⟩
  · unfold nput
    split <;> omega
  · unfold upd at hk
    split at hk
    · cases hk
    · rename_i ne
      rw [et, places_snocS, if_neg (fun z => ne z.symm)]
      exact h1 k hk
  · unfold upd at hk
    split at hk
    · rename_i ek
      have ev := Option.some.inj hk
      subst ev
      subst ek
      rw [et, places_snocS, if_pos rfl, tl, intsN_append]
      refine ⟨KT.owns ho (fun j z y => ?_), ?_, p9mb, Nat.succ_pos _⟩
      · rw [blockOf_own] at z
        have y : j = mb := y
        rw [y] at z
        exact p9mb z
      · rw [List.length_append]
        show s.n + 1 = _
        rw [sn.1]
        rfl
    · rename_i ne
      rw [et, places_snocS, if_neg (fun z => ne z.symm)]
      obtain ⟨r1, r2, r3, r4⟩ := h2 k t hk
      refine ⟨KT.owns (KG.owns (KY.owns r1 (fun _ _ z => z)) (fun j z y => ?_)) (fun j z y => ?_), r2, r3, r4⟩
      · rw [blockOf_own] at z
        exact h3 k (e.key) t s j hk (sn.2.2 j y) ne z y
      · rw [blockOf_own] at z
        have y : j = mb := y
        rw [y] at z
        exact r3 z
  · unfold upd at hk hk'
    split at hk
    · rename_i e1
      split at hk'
      · rename_i e2
        exact ne (e1.trans e2.symm)
      · rename_i e2
        have ev := Option.some.inj hk
        subst ev
        rcases p9b j z with q | q
        · exact h3 (e.key) k' s t' j (sn.2.2 j q) hk' (fun u => e2 u.symm) q y
        · have := (own_lt (h2 k' t' hk').1 j y).2
          omega
    · rename_i e1
      split at hk'
      · have ev := Option.some.inj hk'
        subst ev
        rcases p9b j y with q | q
        · exact h3 k (e.key) t s j hk (sn.2.2 j q) e1 z q
        · have := (own_lt (h2 k t hk).1 j z).2
          omega
      · exact h3 k k' t t' j hk hk' ne z y
  · refine (Kept.own (K0.trans KY (fun _ _ z => z)) KG (fun j z => ?_)).trans KT (fun j hj z => ?_)
    · exact (own_lt (h2 _ _ (sn.2.2 j z)).1 j z).1
    · have z : j = mb := z
      omega
end Go.Proofs.YtbangbobfeflcaaGreatDoor

namespace Go.Proofs.YtbangbobfeflcaaGreatDoor
open Go.RowKit 

end Go.Proofs.YtbangbobfeflcaaGreatDoor

namespace Go.Proofs.YtbangbobfeflcaaGreatDoor
open Go.RowKit 

theorem PS.base {w wc wr : World} {p : Option Addr} {k c : Nat} {L : List Ev} (h : PS wc wr p k c L) (K : Kept (fun _ => False) w wc) : PS w wr p k c L := ⟨⟨h.row.len, owns_mono h.row.row K.size⟩, fun e he => owns_mono (h.val e he) K.size, K.trans h.kept (fun _ _ z => z)⟩
end Go.Proofs.YtbangbobfeflcaaGreatDoor

namespace Go.Proofs.YtbangbobfeflcaaGreatDoor
open Go.RowKit 

set_option maxRecDepth 100000 in
set_option maxHeartbeats 2000000 in
theorem hEqual {w : World} {kind client op st tx ty : Int} {put : Bool} {key : ByteArray} {va va' : Option Addr} {vn vc vc' : Nat} {val : List Nat} (R1 : Reads w va vn vc val) (R2 : Reads w va' vn vc' val) : Calls Tryz.prog 17 #[.agg #[.int .i64 kind, .int .i64 client, .int .i64 op, .bool put, .string key, .slice va vn vc, .int .i64 st, .int .i64 tx, .int .i64 ty], .agg #[.int .i64 kind, .int .i64 client, .int .i64 op, .bool put, .string key, .slice va' vn vc', .int .i64 st, .int .i64 tx, .int .i64 ty]] w fun o w' => o = .returned (.bool true) ∧ Kept (fun _ => False) w w' := by
  have C28 : Hid (∀ V, Kept (fun _ => False) w V → Calls Tryz.prog 28 #[.slice va vn vc, .slice va' vn vc'] V fun o w' => o = .returned (.bool true) ∧ Kept (fun _ => False) V w') := fun V K => by
    have q := hSame (Reads.kept K R1 (fun _ _ z => z)) (Reads.kept K R2 (fun _ _ z => z))
    rw [decide_eq_true rfl] at q
    exact q
  clear R1 R2
  have HA : Hid (Kept (fun _ => False) w ((w.alloc (.cells #[.int .i64 kind, .int .i64 client, .int .i64 op, .bool put, .string key, .slice va vn vc, .int .i64 st, .int .i64 tx, .int .i64 ty] 39)).alloc (.cells #[.int .i64 kind, .int .i64 client, .int .i64 op, .bool put, .string key, .slice va' vn vc', .int .i64 st, .int .i64 tx, .int .i64 ty] 39)) ∧ ((w.alloc (.cells #[.int .i64 kind, .int .i64 client, .int .i64 op, .bool put, .string key, .slice va vn vc, .int .i64 st, .int .i64 tx, .int .i64 ty] 39)).alloc (.cells #[.int .i64 kind, .int .i64 client, .int .i64 op, .bool put, .string key, .slice va' vn vc', .int .i64 st, .int .i64 tx, .int .i64 ty] 39)).heap[w.heap.size]? = some (.cells #[.int .i64 kind, .int .i64 client, .int .i64 op, .bool put, .string key, .slice va vn vc, .int .i64 st, .int .i64 tx, .int .i64 ty] 39 (0, 0)) ∧ ((w.alloc (.cells #[.int .i64 kind, .int .i64 client, .int .i64 op, .bool put, .string key, .slice va vn vc, .int .i64 st, .int .i64 tx, .int .i64 ty] 39)).alloc (.cells #[.int .i64 kind, .int .i64 client, .int .i64 op, .bool put, .string key, .slice va' vn vc', .int .i64 st, .int .i64 tx, .int .i64 ty] 39)).heap[w.heap.size + 1]? = some (.cells #[.int .i64 kind, .int .i64 client, .int .i64 op, .bool put, .string key, .slice va' vn vc', .int .i64 st, .int .i64 tx, .int .i64 ty] 39 (0, 0))) := ⟨((Kept.refl _ _).alloc _).alloc _, alloc_old _ (alloc_new _ _), by
    have q := alloc_new (w.alloc (.cells #[.int .i64 kind, .int .i64 client, .int .i64 op, .bool put, .string key, .slice va vn vc, .int .i64 st, .int .i64 tx, .int .i64 ty] 39)) (.cells #[.int .i64 kind, .int .i64 client, .int .i64 op, .bool put, .string key, .slice va' vn vc', .int .i64 st, .int .i64 tx, .int .i64 ty] 39)
    rw [alloc_size] at q
    exact q⟩
  go_enter Tryz.func17, Tryz.ntmps17
  go_wp2_with fail
  refine (C28.out _ HA.out.1).mono ?_
  rintro o w3 ⟨rfl, K3⟩
  have HB : Hid (Kept (fun _ => False) w w3) := HA.out.1.trans K3 (fun _ _ z => z)
  have b1 := K3.get HA.out.2.1 (fun z => z)
  have b2 := K3.get HA.out.2.2 (fun z => z)
  have c1 := cell_blk b1 6 (v := .int .i64 st) rfl
  have c2 := cell_blk b1 7 (v := .int .i64 tx) rfl
  have c3 := cell_blk b1 8 (v := .int .i64 ty) rfl
  have d1 := cell_blk b2 6 (v := .int .i64 st) rfl
  have d2 := cell_blk b2 7 (v := .int .i64 tx) rfl
  have d3 := cell_blk b2 8 (v := .int .i64 ty) rfl
  clear K3 HA C28 b1 b2
  go_wp2_with fail
  go_ret
  exact ⟨rfl, HB.out⟩
end Go.Proofs.YtbangbobfeflcaaGreatDoor
