import Derived.Test.YtbangbobfeflcaaGreatDoorRAq
import Derived.Test.YtbangbobfeflcaaGreatDoorHModJ
import Derived.Test.YtbangbobfeflcaaGreatDoorHTkJ
namespace Go.Proofs.YtbangbobfeflcaaGreatDoor
open Go.RowKit 

theorem owns_setN {w : World} {base : Nat} {e : TypeId} {g n c s : Nat} {xs : List Value} (h : w.ownsRow base e s (.slice (some ⟨g, 0, none⟩) n c) n xs) (i : Nat) (u : Value) : (w.setCell ⟨g, i, none⟩ u).ownsRow base e s (.slice (some ⟨g, 0, none⟩) n c) n (xs.set i u) := by
  rcases h.2 with ⟨z, _⟩ | ⟨g', cap, cur, z, h1, h2, h3, h4, h5, h6⟩
  · cases z
  · have z : Value.slice (some ⟨g, 0, none⟩) n c = .slice (some ⟨g', 0, none⟩) n cap := z
    injection z with z1 _ z3
    have z1 : g = g' := by simpa using z1
    subst z1
    subst z3
    refine ⟨by rw [List.length_set]; exact h.1, .inr ⟨g, c, cur.setIfInBounds i u, rfl, h1, set_heap h2 i u, h3, h4, by simpa using h5, ?_⟩⟩
    rw [Array.toList_setIfInBounds, List.take_set, h6]
/-- Two lists of events, their Clients written over. -/
structure O2 (b0 : Nat) (w W : World) (G : Nat) (p0 p1 : Option Addr) (n c0 c1 : Nat) (X0 X1 : List Value) : Prop where
  r0 : W.ownsRow b0 39 9 (.slice p0 n c0) n X0
  r1 : W.ownsRow b0 39 9 (.slice p1 n c1) n X1
  gg : W.heap[G]? = some (.cells #[.slice p0 n c0, .slice p1 n c1] 22 (0, 0))
  ne : ∀ b, blockOf p0 = some b → ¬ blockOf p1 = some b
  kept : Kept (fun b => blockOf p0 = some b ∨ blockOf p1 = some b) w W
theorem row_cell {W : World} {b0 g n c j : Nat} {X : List Value} {v : Value} (h : W.ownsRow b0 39 9 (.slice (some ⟨g, 0, none⟩) n c) n X) (hv : X[j]? = some v) : W.cell? ⟨g, j, none⟩ = some v ∧ W.frozen? ⟨g, j, none⟩ = false := by
  have q := h.cells (g := g) rfl j v hv
  rw [Addr.add_none, Nat.zero_add] at q
  obtain ⟨c1, e1⟩ := own_type h g rfl
  exact ⟨q, soft_blk e1 j⟩
/-- What can be read behind the appends. -/
structure O3 (w W : World) (G : Nat) (p0 p1 : Option Addr) (n c0 c1 : Nat) : Prop where
  gg : W.heap[G]? = some (.cells #[.slice p0 n c0, .slice p1 n c1] 22 (0, 0))
  d0 : ∀ i, i < n → ∃ g, p0 = some ⟨g, 0, none⟩ ∧ W.cell? ⟨g, i * 9 + 1, none⟩ = some (.int .i64 (-100))
  d1 : ∀ i, i < n → ∃ g, p1 = some ⟨g, 0, none⟩ ∧ W.cell? ⟨g, i * 9 + 1, none⟩ = some (.int .i64 (-101))
  kept : Kept (fun b => blockOf p0 = some b ∨ blockOf p1 = some b) w W
/-- What a row still reads as when something was put behind it. -/
theorem still {W W' : World} {b0 n c c9 : Nat} {p p9 : Option Addr} {X E : List Value} {v : Value} {j : Nat} (h : W.ownsRow b0 39 9 (.slice p n c) n X) (hv : X[j]? = some v) (ho : W'.ownsRow b0 39 9 (.slice p9 (n + 1) c9) (n + 1) (X ++ E)) (hn : (Value.slice p9 (n + 1) c9).ownBlock = (Value.slice p n c).ownBlock ∨ ((Value.slice p9 (n + 1) c9).ownBlock = some W.heap.size ∧ W.grownBy W' none)) : ∃ g, p = some ⟨g, 0, none⟩ ∧ W'.cell? ⟨g, j, none⟩ = some v := by
  have hj := (List.getElem?_eq_some_iff.1 hv).1
  rcases h.2 with ⟨_, z⟩ | ⟨g, cap, cur, z, _⟩
  · have := h.1
    omega
  · have z : Value.slice p n c = .slice (some ⟨g, 0, none⟩) n cap := z
    injection z with z1 _ _
    subst z1
    refine ⟨g, rfl, ?_⟩
    have old := (row_cell h hv).1
    rcases hn with q | ⟨_, gn⟩
    · rw [blockOf_own, blockOf_own] at q
      obtain ⟨g9, e9⟩ : ∃ g9, p9 = some ⟨g9, 0, none⟩ := by
        rcases ho.2 with ⟨_, z⟩ | ⟨g', cap, cur, z, _⟩
        · omega
        · injection z with z1 _ _
          exact ⟨g', z1⟩
      rw [e9] at q ho
      obtain rfl : g9 = g := by
        have q : some g9 = some g := q
        exact Option.some.inj q
      exact (row_cell ho (by rw [List.getElem?_append_left hj]; exact hv)).1
    · exact ((Kept.refl (fun _ => False) W).grown gn (fun j _ z => by simp at z)).cell old (fun z => z)
end Go.Proofs.YtbangbobfeflcaaGreatDoor

namespace Go.Proofs.YtbangbobfeflcaaGreatDoor
open Go.RowKit 

end Go.Proofs.YtbangbobfeflcaaGreatDoor

namespace Go.Proofs.YtbangbobfeflcaaGreatDoor
open Go.RowKit 

def isAtS (es : List Ev) (k : ByteArray) (i : Nat) : Bool := match es[i]? with | some e => decide (e.key = k) | none => false
/-- The places of a key's events. -/
def placesS (es : List Ev) (k : ByteArray) : List Nat := (List.range es.length).filter (isAtS es k)
theorem places_snocS (es : List Ev) (e : Ev) (k : ByteArray) : placesS (es ++ [e]) k = if e.key = k then placesS es k ++ [es.length] else placesS es k := by
  unfold placesS
  rw [List.length_append, List.length_singleton, List.range_succ, List.filter_append]
  have e1 : (List.range es.length).filter (isAtS (es ++ [e]) k) = (List.range es.length).filter (isAtS es k) := by
    refine List.filter_congr (fun i hi => ?_)
    unfold isAtS
    rw [get_old (List.mem_range.1 hi)]
  have e2 : isAtS (es ++ [e]) k es.length = decide (e.key = k) := by
    unfold isAtS
    rw [get_new]
  rw [e1]
  by_cases h : e.key = k
  · rw [if_pos h, List.filter_cons_of_pos (by rw [e2, decide_eq_true h])]
    rfl
  · rw [if_neg h, List.filter_cons_of_neg (by rw [e2, decide_eq_false h]; decide)]
    simp
def strL (s : ByteArray) : Lit := Lit.string s.data.toList
def strF (s : ByteArray) : Prop := s.size ≤ maxLen
theorem strLaw : Maps.Keyed Tryz.prog 9 := Maps.string_keyed Tryz.underlying9
theorem strK : MK (ε := Sl) 69 9 70 Value.string strL strF Sl.v ⟨none, 0, 0⟩ RSl where
  law := strLaw
  und := Tryz.underlying69
  key _ h := WideMaps.keyOf_string_mk Tryz.underlying9 h
  inv v l h := by
    obtain ⟨s, h1, h2, h3⟩ := WideMaps.string_of_keyOf Tryz.underlying9 h
    exact ⟨s, h1, h3, h2⟩
  inj k k' _ _ h := by
    obtain ⟨⟨k⟩⟩ := k
    obtain ⟨⟨k'⟩⟩ := k'
    simpa [strL] using h
  kvi k k' h := by simpa using h
  rd _ := rfl
  rdi v y h := by
    unfold RSl at h
    split at h
    · rename_i a n c
      exact ⟨⟨⟨a, n, c⟩, rfl⟩, (Option.some.inj h).symm⟩
    · cases h
  evi e e' h := by
    obtain ⟨a, b, c⟩ := e
    obtain ⟨a', b', c'⟩ := e'
    unfold Sl.v at h
    simp at h
    obtain ⟨rfl, rfl, rfl⟩ := h
    rfl
  zero w := Tryz.zeroValue70 w
/-- The places by key, in memory, of the first i events. -/
structure GT (w : World) (es : List Ev) (mb i : Nat) (wr : World) : Prop where
  ok : ∃ (n : Nat) (Mp : ByteArray → Option Sl), TM 9 strL strF Sl.v RSl wr mb n Mp ∧ n ≤ i ∧ (∀ k, Mp k = none → placesS (es.take i) k = []) ∧ (∀ k s, Mp k = some s → wr.ownsRow w.heap.size 3 1 (.slice s.p s.n s.c) s.n (intsN (placesS (es.take i) k)) ∧ s.n = (placesS (es.take i) k).length ∧ ¬ blockOf s.p = some mb ∧ 0 < s.n) ∧ (∀ k k' s s' j, Mp k = some s → Mp k' = some s' → k ≠ k' → blockOf s.p = some j → ¬ blockOf s'.p = some j)
  kept : Kept (fun _ => False) w wr
  mb : w.heap.size ≤ mb ∧ mb < wr.heap.size
theorem GT.step {w wr Y w9 w10 : World} {es : List Ev} {mb i n : Nat} {Mp : ByteArray → Option Sl} {e : Ev} {s : Sl} {p9 : Option Addr} {c9 : Nat} (hn : n ≤ i) (h1 : ∀ k, Mp k = none → placesS (es.take i) k = []) (h2 : ∀ k s, Mp k = some s → wr.ownsRow w.heap.size 3 1 (.slice s.p s.n s.c) s.n (intsN (placesS (es.take i) k)) ∧ s.n = (placesS (es.take i) k).length ∧ ¬ blockOf s.p = some mb ∧ 0 < s.n) (h3 : ∀ k k' s s' j, Mp k = some s → Mp k' = some s' → k ≠ k' → blockOf s.p = some j → ¬ blockOf s'.p = some j)
    (K0 : Kept (fun _ => False) w wr) (hmb : w.heap.size ≤ mb ∧ mb < wr.heap.size) (KY : Kept (fun _ => False) wr Y) (he : es[i]? = some e) (hs : s = (Mp (e.key)).getD ⟨none, 0, 0⟩)
    (ho : w9.ownsRow w.heap.size 3 1 (.slice p9 (s.n + 1) c9) (s.n + 1) (intsN (placesS (es.take i) (e.key)) ++ intsN [i])) (hg : Y.grownBy w9 (Value.slice s.p s.n s.c).ownBlock) (hn9 : (Value.slice p9 (s.n + 1) c9).ownBlock = (Value.slice s.p s.n s.c).ownBlock ∨ ((Value.slice p9 (s.n + 1) c9).ownBlock = some Y.heap.size ∧ Y.grownBy w9 none))
    (tm : TM 9 strL strF Sl.v RSl w10 mb (nput n Mp (e.key)) (upd Mp (e.key) ⟨p9, s.n + 1, c9⟩)) (KT : Kept (fun j => j = mb) w9 w10)   : GT w es mb (i + 1) w10 := by
  have hil := (List.getElem?_eq_some_iff.1 he).1
  have et : es.take (i + 1) = es.take i ++ [e] := by rw [List.take_add_one, he]; rfl
  have tl : (es.take i).length = i := by rw [List.length_take]; omega
  have KG : Kept (fun j => blockOf s.p = some j) Y w9 := (Kept.refl _ Y).grown hg (fun j _ z => by rw [blockOf_own] at z; exact z)
  rw [blockOf_own, blockOf_own] at hn9
  have sY := KY.size
  have sG := KG.size
  have sT := KT.size
  have sn : s.n = (placesS (es.take i) (e.key)).length ∧ ¬ blockOf s.p = some mb ∧ ∀ j, blockOf s.p = some j → Mp (e.key) = some s := by
    cases hq : Mp (e.key) with
    | none =>
      rw [hq] at hs
      rw [hs, h1 _ hq]
      exact ⟨rfl, fun z => (by cases z), fun j z => (by cases z)⟩
    | some s' =>
      rw [hq] at hs
      have hs : s = s' := hs
      rw [hs]
      exact ⟨(h2 _ _ hq).2.1, (h2 _ _ hq).2.2.1, fun _ _ => rfl⟩
  have p9b : ∀ j, blockOf p9 = some j → (blockOf s.p = some j) ∨ j = Y.heap.size := by
    intro j z
    rcases hn9 with q | ⟨q, _⟩
    · left
      rw [← q]
      exact z
    · right
      rw [q] at z
      exact (Option.some.inj z).symm
  have p9mb : ¬ blockOf p9 = some mb := fun z => by
    rcases p9b mb z with q | q
    · exact sn.2.1 q
    · omega
  refine ⟨⟨_, _, tm, ?_, fun k hk => ?_, fun k t hk => ?_, fun k k' t t' j hk hk' ne z y => ?_⟩, ?_, hmb.1, by omega⟩
  · unfold nput
    split <;> omega
  · unfold upd at hk
    split at hk
    · cases hk
    · rename_i ne
      rw [et, places_snocS, if_neg (fun z => ne z.symm)]
      exact h1 k hk
  · unfold upd at hk
    split at hk
    · rename_i ek
      have ev := Option.some.inj hk
      subst ev
      subst ek
      rw [et, places_snocS, if_pos rfl, tl, intsN_append]
      refine ⟨KT.owns ho (fun j z y => ?_), ?_, p9mb, Nat.succ_pos _⟩
      · rw [blockOf_own] at z
        have y : j = mb := y
        rw [y] at z
        exact p9mb z
      · rw [List.length_append]
        show s.n + 1 = _
        rw [sn.1]
        rfl
    · rename_i ne
      rw [et, places_snocS, if_neg (fun z => ne z.symm)]
      obtain ⟨r1, r2, r3, r4⟩ := h2 k t hk
      refine ⟨KT.owns (KG.owns (KY.owns r1 (fun _ _ z => z)) (fun j z y => ?_)) (fun j z y => ?_), r2, r3, r4⟩
      · rw [blockOf_own] at z
        exact h3 k (e.key) t s j hk (sn.2.2 j y) ne z y
      · rw [blockOf_own] at z
        have y : j = mb := y
        rw [y] at z
        exact r3 z
  · unfold upd at hk hk'
    split at hk
    · rename_i e1
      split at hk'
      · rename_i e2
        exact ne (e1.trans e2.symm)
      · rename_i e2
        have ev := Option.some.inj hk
        subst ev
        rcases p9b j z with q | q
        · exact h3 (e.key) k' s t' j (sn.2.2 j q) hk' (fun u => e2 u.symm) q y
        · have := (own_lt (h2 k' t' hk').1 j y).2
          omega
    · rename_i e1
      split at hk'
      · have ev := Option.some.inj hk'
        subst ev
        rcases p9b j y with q | q
        · exact h3 k (e.key) t s j hk (sn.2.2 j q) e1 z q
        · have := (own_lt (h2 k t hk).1 j z).2
          omega
      · exact h3 k k' t t' j hk hk' ne z y
  · refine (Kept.own (K0.trans KY (fun _ _ z => z)) KG (fun j z => ?_)).trans KT (fun j hj z => ?_)
    · exact (own_lt (h2 _ _ (sn.2.2 j z)).1 j z).1
    · have z : j = mb := z
      omega
theorem hEKey (e : Ev) (w : World) : Calls Tryz.prog 39 #[.agg #[.int .i64 e.kind, .int .i64 e.client, .int .i64 e.op, .bool e.put, .string e.key, .slice e.va e.vn e.vc, .int .i64 e.st, .int .i64 e.tx, .int .i64 e.ty]] w fun o w' => o = .returned (.string e.key) ∧ Kept (fun _ => False) w w' := by
  go_enter Tryz.func39, Tryz.ntmps39
  go_wp2_with fail
  go_ret
  exact ⟨rfl, (Kept.refl _ _).alloc _⟩
end Go.Proofs.YtbangbobfeflcaaGreatDoor
