import Derived.Test.YtonfefhegghapaaDoorAPrJ
namespace Go.Proofs.YtonfefhegghapaaDoor
open Go.RowKit 

/-- The cells of one of Parse's steps. -/
theorem PX.cells {w wr : World} {p : Option Addr} {k c : Nat} {L : List Sm} {ss : List St} (h : PX w wr p k c L ss) {i : Nat} {x : Sm} (hx : L[i]? = some x) : ∃ g, p = some ⟨g, 0, none⟩ ∧ ∀ (j : Nat) (v : Value), x.cs[j]? = some v → wr.cell? ⟨g, i * 6 + j, none⟩ = some v := by
  obtain ⟨hi, ex⟩ := List.getElem?_eq_some_iff.1 hx
  have hl := h.len
  rcases h.row.2 with ⟨_, hn⟩ | ⟨g, cap, cur, z, _⟩
  · omega
  · have z : Value.slice p k c = .slice (some ⟨g, 0, none⟩) k cap := z
    injection z with z1 _ z3
    subst z1
    have hc := h.row.cells (g := g) rfl
    refine ⟨g, rfl, fun j v hv => ?_⟩
    have hj : j < 6 := by
      obtain ⟨h1, _⟩ := Array.getElem?_eq_some_iff.1 hv
      have : x.cs.size = 6 := rfl
      omega
    have := hc (i * 6 + j) v (by rw [scs_get _ i hi j hj, ex]; exact hv)
    rw [Addr.add_none, Nat.zero_add] at this
    exact this
/-- An owned row of one-cell elements that isn't empty: where it lies, its cells, and that they may be written. -/
theorem own_at {w : World} {base n c : Nat} {e : TypeId} {p : Option Addr} {xs : List Value} (h : w.ownsRow base e 1 (.slice p n c) n xs) (h0 : 0 < n) : ∃ g, p = some ⟨g, 0, none⟩ ∧ ∀ (j : Nat) (v : Value), xs[j]? = some v → w.cell? ⟨g, j, none⟩ = some v ∧ w.frozen? ⟨g, j, none⟩ = false := by
  rcases h.2 with ⟨_, hn⟩ | ⟨g, cap, cur, z, _, hg, _⟩
  · omega
  · have z : Value.slice p n c = .slice (some ⟨g, 0, none⟩) n cap := z
    injection z with z1 _ z3
    subst z1
    have hc := h.cells (g := g) rfl
    refine ⟨g, rfl, fun j v hv => ⟨?_, soft_blk hg j⟩⟩
    have := hc j v hv
    rw [Addr.add_none, Nat.zero_add] at this
    exact this
end Go.Proofs.YtonfefhegghapaaDoor

namespace Go.Proofs.YtonfefhegghapaaDoor
open Go.RowKit 

/-- The first i steps' bytes and numbers are i's. -/
def FI (i : Nat) (ss : List St) : Prop := ∀ (m : Nat) (s : St), ss[m]? = some s → (s.val.length ≤ 33554432 ∧ s.l.length ≤ 33554432) ∧ (m < i → (∀ b ∈ s.val, b = UInt8.ofNat m) ∧ ∀ z ∈ s.l, z = -100 - (m : Int))
def FV (i j : Nat) (ss : List St) : Prop := FI i ss ∧ ∀ s, ss[i]? = some s → ∀ q, q < j → ∀ b, s.val[q]? = some b → b = UInt8.ofNat i
def FW (i j : Nat) (ss : List St) : Prop := FI i ss ∧ ∀ s, ss[i]? = some s → (∀ b ∈ s.val, b = UInt8.ofNat i) ∧ ∀ q, q < j → ∀ z, s.l[q]? = some z → z = -100 - (i : Int)
theorem set_at {ss : List St} {i m : Nat} {s s' u : St} (hs : ss[i]? = some s) (hu : (ss.set i s')[m]? = some u) : (m = i ∧ u = s') ∨ (m ≠ i ∧ ss[m]? = some u) := by
  by_cases hm : i = m
  · subst hm
    rw [List.getElem?_set_self (List.getElem?_eq_some_iff.1 hs).1] at hu
    exact .inl ⟨rfl, by simpa using hu.symm⟩
  · rw [List.getElem?_set_ne hm] at hu
    exact .inr ⟨fun q => hm q.symm, hu⟩
theorem FI.set {ss : List St} {i : Nat} {s s' : St} (h : FI i ss) (hs : ss[i]? = some s) (h1 : s'.val.length = s.val.length) (h2 : s'.l.length = s.l.length) : FI i (ss.set i s') := fun m u hu => by
  rcases set_at hs hu with ⟨rfl, rfl⟩ | ⟨_, hu⟩
  · exact ⟨by rw [h1, h2]; exact (h _ s hs).1, fun z => absurd z (Nat.lt_irrefl _)⟩
  · exact h m u hu
theorem FV.set {ss : List St} {i j : Nat} {s : St} (h : FV i j ss) (hs : ss[i]? = some s) : FV i (j + 1) (ss.set i { s with val := s.val.set j (UInt8.ofNat i) }) := by
  refine ⟨h.1.set hs (by simp) rfl, fun u hu q hq b hb => ?_⟩
  rcases set_at hs hu with ⟨_, rfl⟩ | ⟨z, _⟩
  · have hb : (s.val.set j (UInt8.ofNat i))[q]? = some b := hb
    by_cases hj : j = q
    · subst hj
      have hl := (List.getElem?_eq_some_iff.1 hb).1
      rw [List.length_set] at hl
      rw [List.getElem?_set_self hl] at hb
      simpa using hb.symm
    · rw [List.getElem?_set_ne hj] at hb
      exact h.2 s hs q (by omega) b hb
  · exact absurd rfl z
theorem FW.set {ss : List St} {i j : Nat} {s : St} (h : FW i j ss) (hs : ss[i]? = some s) : FW i (j + 1) (ss.set i { s with l := s.l.set j (-100 - (i : Int)) }) := by
  refine ⟨h.1.set hs rfl (by simp), fun u hu => ?_⟩
  rcases set_at hs hu with ⟨_, rfl⟩ | ⟨z, _⟩
  · refine ⟨(h.2 s hs).1, fun q hq b hb => ?_⟩
    have hb : (s.l.set j (-100 - (i : Int)))[q]? = some b := hb
    by_cases hj : j = q
    · subst hj
      have hl := (List.getElem?_eq_some_iff.1 hb).1
      rw [List.length_set] at hl
      rw [List.getElem?_set_self hl] at hb
      simpa using hb.symm
    · rw [List.getElem?_set_ne hj] at hb
      exact (h.2 s hs).2 q (by omega) b hb
  · exact absurd rfl z
theorem FV.done {ss : List St} {i j : Nat} (h : FV i j ss) (hl : ∀ s, ss[i]? = some s → s.val.length ≤ j) : FW i 0 ss := ⟨h.1, fun s hs => ⟨fun b hb => by
  obtain ⟨q, hq⟩ := List.mem_iff_getElem?.1 hb
  have := (List.getElem?_eq_some_iff.1 hq).1
  have := hl s hs
  exact h.2 s hs q (by omega) b hq, fun q hq => absurd hq (Nat.not_lt_zero _)⟩⟩
theorem FW.done {ss : List St} {i j : Nat} (h : FW i j ss) (hl : ∀ s, ss[i]? = some s → s.l.length ≤ j) : FI (i + 1) ss := fun m s hs => by
  refine ⟨(h.1 m s hs).1, fun hm => ?_⟩
  by_cases e : m = i
  · subst e
    refine ⟨(h.2 s hs).1, fun z hz => ?_⟩
    obtain ⟨q, hq⟩ := List.mem_iff_getElem?.1 hz
    have := (List.getElem?_eq_some_iff.1 hq).1
    have := hl s hs
    exact (h.2 s hs).2 q (by omega) z hq
  · exact (h.1 m s hs).2 (by omega)
end Go.Proofs.YtonfefhegghapaaDoor

namespace Go.Proofs.YtonfefhegghapaaDoor
open Go.RowKit 

def slV (r : Rw) : Value := .slice r.p r.n r.c
/-- Where alone's second loop is. -/
structure PH (w wr : World) (p : Option Addr) (k c : Nat) (L : List Sm) (i1 : Nat) (q1 : Option Addr) (d1 : Nat) (i2 : Nat) (q2 : Option Addr) (d2 : Nat) (RV RL : List Rw) : Prop where
  row : wr.ownsRow w.heap.size 38 6 (.slice p k c) k (scs L)
  rv : RB w.heap.size 5 wr RV
  rl : RB w.heap.size 3 wr RL
  lv : RV.length = k
  ll : RL.length = k
  v1 : wr.ownsRow w.heap.size 35 1 (.slice q1 i1 d1) i1 ((RV.take i1).map slV)
  v2 : wr.ownsRow w.heap.size 36 1 (.slice q2 i2 d2) i2 ((RL.take i2).map slV)
  fv : ∀ (m : Nat) (r : Rw), RV[m]? = some r → ∀ v ∈ r.xs, v = .int .u8 ((m : Int) % 256)
  fl : ∀ (m : Nat) (r : Rw), RL[m]? = some r → ∀ v ∈ r.xs, v = .int .i64 (-100 - (m : Int))
  bv : ∀ (m : Nat) (r : Rw), RV[m]? = some r → r.n ≤ 33554502
  bl : ∀ (m : Nat) (r : Rw), RL[m]? = some r → r.n ≤ 33554502
  kept : Kept (fun _ => False) w wr
theorem PH.k0 {w wr W : World} {p : Option Addr} {k c : Nat} {L : List Sm} {i1 i2 : Nat} {q1 q2 : Option Addr} {d1 d2 : Nat} {RV RL : List Rw} (h : PH w wr p k c L i1 q1 d1 i2 q2 d2 RV RL) (K : Kept (fun _ => False) wr W) : PH w W p k c L i1 q1 d1 i2 q2 d2 RV RL := ⟨K.owns h.row (fun _ _ z => z), h.rv.k0 K, h.rl.k0 K, h.lv, h.ll, K.owns h.v1 (fun _ _ z => z), K.owns h.v2 (fun _ _ z => z), h.fv, h.fl, h.bv, h.bl, h.kept.trans K (fun _ _ z => z)⟩
theorem own_grown {W W' : World} {b0 b1 : Nat} {t t' : TypeId} {n n' c c' size size' : Nat} {p p' : Option Addr} {xs xs' : List Value} (h : W.ownsRow b0 t size (.slice p n c) n xs) (ho : W.ownsRow b1 t' size' (.slice p' n' c') n' xs') (ht : t' ≠ t) (hg : W.grownBy W' (Value.slice p' n' c').ownBlock) : W'.ownsRow b0 t size (.slice p n c) n xs := (TX.kg hg).owns h (fun j z e => by
  rw [blockOf_own] at z
  obtain ⟨c1, e1⟩ := own_type h j z
  obtain ⟨c2, e2⟩ := own_type ho j e
  rw [e1] at e2
  simp at e2
  exact ht e2.2.symm)
/-- It begins. -/
theorem PX.ph {w W : World} {p : Option Addr} {k c : Nat} {L : List Sm} {ss : List St} (h : PX w W p k c L ss) (o : Ord L) (f : FI k ss) : PH w W p k c L 0 none 0 0 none 0 (List.zipWith rwV L ss) (List.zipWith rwL L ss) := by
  obtain ⟨r1, r2⟩ := h.rows o
  have h1 := h.len
  have h2 := h.slen
  refine ⟨h.row, r1, r2, by rw [List.length_zipWith]; omega, by rw [List.length_zipWith]; omega, ⟨rfl, .inl ⟨rfl, rfl⟩⟩, ⟨rfl, .inl ⟨rfl, rfl⟩⟩, fun m r hr v hv => ?_, fun m r hr v hv => ?_, fun m r hr => ?_, fun m r hr => ?_, h.kept⟩
  · obtain ⟨x, s, hx, hs, rfl⟩ := zip_at hr
    have hm := (List.getElem?_eq_some_iff.1 hx).1
    unfold rwV Lib.byteCells at hv
    obtain ⟨b, hb, rfl⟩ := List.mem_map.1 hv
    rw [((f m s hs).2 (by omega)).1 b hb, UInt8.toNat_ofNat']
    congr 1
  · obtain ⟨x, s, hx, hs, rfl⟩ := zip_at hr
    have hm := (List.getElem?_eq_some_iff.1 hx).1
    unfold rwL intC at hv
    obtain ⟨z, hz, rfl⟩ := List.mem_map.1 hv
    rw [((f m s hs).2 (by omega)).2 z hz]
  · obtain ⟨x, s, hx, hs, rfl⟩ := zip_at hr
    have q := (h.so m x s hx hs).vl
    have z := (f m s hs).1.1
    show x.vn ≤ 33554502
    omega
  · obtain ⟨x, s, hx, hs, rfl⟩ := zip_at hr
    have q := (h.so m x s hx hs).ll
    have z := (f m s hs).1.2
    show x.ln ≤ 33554502
    omega
/-- A value grows. -/
theorem PH.growV {w wr W : World} {p : Option Addr} {k c : Nat} {L : List Sm} {i i1 i2 : Nat} {q1 q2 : Option Addr} {d1 d2 : Nat} {RV RL : List Rw} {a a9 : Option Addr} {n e e9 : Nat} {xs : List Value} (h : PH w wr p k c L i1 q1 d1 i2 q2 d2 RV RL) (hm : RV[i]? = some ⟨a, n, e, xs⟩) (hi : i1 ≤ i) (hz : n + 1 ≤ 33554502) (ho : W.ownsRow w.heap.size 5 1 (.slice a9 (n + 1) e9) (n + 1) (xs ++ [.int .u8 ((i : Int) % 256)])) (hg : wr.grownBy W (Value.slice a n e).ownBlock) (hn : (Value.slice a9 (n + 1) e9).ownBlock = (Value.slice a n e).ownBlock ∨ ((Value.slice a9 (n + 1) e9).ownBlock = some wr.heap.size ∧ wr.grownBy W none)) : PH w W p k c L i1 q1 d1 i2 q2 d2 (RV.set i ⟨a9, n + 1, e9, xs ++ [.int .u8 ((i : Int) % 256)]⟩) RL := by
  have o := h.rv.own i _ hm
  refine ⟨own_grown h.row o (by decide) hg, h.rv.grow hm ho hg hn, h.rl.other o (by decide) hg, by rw [List.length_set]; exact h.lv, h.ll, ?_, own_grown h.v2 o (by decide) hg, fun m r hr v hv => ?_, h.fl, fun m r hr => ?_, h.bl, h.kept.trans (TX.kg hg) (fun j hj z => by have := (own_lt o j z).1; omega)⟩
  · have q := own_grown h.v1 o (by decide) hg
    rw [List.take_set_of_le hi]
    exact q
  · by_cases hmi : m = i
    · subst hmi
      rw [List.getElem?_set_self (List.getElem?_eq_some_iff.1 hm).1] at hr
      obtain rfl : Rw.mk a9 (n + 1) e9 (xs ++ [.int .u8 ((m : Int) % 256)]) = r := by simpa using hr
      rcases List.mem_append.1 hv with z | z
      · exact h.fv m _ hm v z
      · exact List.mem_singleton.1 z
    · rw [List.getElem?_set_ne (fun z => hmi z.symm)] at hr
      exact h.fv m r hr v hv
  · by_cases hmi : m = i
    · subst hmi
      rw [List.getElem?_set_self (List.getElem?_eq_some_iff.1 hm).1] at hr
      rw [← Option.some.inj hr]
      exact hz
    · rw [List.getElem?_set_ne (fun z => hmi z.symm)] at hr
      exact h.bv m r hr
/-- A list grows. -/
theorem PH.growL {w wr W : World} {p : Option Addr} {k c : Nat} {L : List Sm} {i i1 i2 : Nat} {q1 q2 : Option Addr} {d1 d2 : Nat} {RV RL : List Rw} {a a9 : Option Addr} {n e e9 : Nat} {xs : List Value} (h : PH w wr p k c L i1 q1 d1 i2 q2 d2 RV RL) (hm : RL[i]? = some ⟨a, n, e, xs⟩) (hi : i2 ≤ i) (hz : n + 1 ≤ 33554502) (ho : W.ownsRow w.heap.size 3 1 (.slice a9 (n + 1) e9) (n + 1) (xs ++ [.int .i64 (-100 - (i : Int))])) (hg : wr.grownBy W (Value.slice a n e).ownBlock) (hn : (Value.slice a9 (n + 1) e9).ownBlock = (Value.slice a n e).ownBlock ∨ ((Value.slice a9 (n + 1) e9).ownBlock = some wr.heap.size ∧ wr.grownBy W none)) : PH w W p k c L i1 q1 d1 i2 q2 d2 RV (RL.set i ⟨a9, n + 1, e9, xs ++ [.int .i64 (-100 - (i : Int))]⟩) := by
  have o := h.rl.own i _ hm
  refine ⟨own_grown h.row o (by decide) hg, h.rv.other o (by decide) hg, h.rl.grow hm ho hg hn, h.lv, by rw [List.length_set]; exact h.ll, own_grown h.v1 o (by decide) hg, ?_, h.fv, fun m r hr v hv => ?_, h.bv, fun m r hr => ?_, h.kept.trans (TX.kg hg) (fun j hj z => by have := (own_lt o j z).1; omega)⟩
  · have q := own_grown h.v2 o (by decide) hg
    rw [List.take_set_of_le hi]
    exact q
  · by_cases hmi : m = i
    · subst hmi
      rw [List.getElem?_set_self (List.getElem?_eq_some_iff.1 hm).1] at hr
      obtain rfl : Rw.mk a9 (n + 1) e9 (xs ++ [.int .i64 (-100 - (m : Int))]) = r := by simpa using hr
      rcases List.mem_append.1 hv with z | z
      · exact h.fl m _ hm v z
      · exact List.mem_singleton.1 z
    · rw [List.getElem?_set_ne (fun z => hmi z.symm)] at hr
      exact h.fl m r hr v hv
  · by_cases hmi : m = i
    · subst hmi
      rw [List.getElem?_set_self (List.getElem?_eq_some_iff.1 hm).1] at hr
      rw [← Option.some.inj hr]
      exact hz
    · rw [List.getElem?_set_ne (fun z => hmi z.symm)] at hr
      exact h.bl m r hr
theorem take_more {α : Type} {l : List α} {i : Nat} {x : α} (h : l[i]? = some x) : l.take (i + 1) = l.take i ++ [x] := by
  rw [List.take_add_one, h]
  rfl
/-- A grown value is put behind the others. -/
theorem PH.pushV {w wr W : World} {p : Option Addr} {k c : Nat} {L : List Sm} {i1 i2 : Nat} {q1 q2 q9 : Option Addr} {d1 d2 e9 : Nat} {RV RL : List Rw} {r : Rw} (h : PH w wr p k c L i1 q1 d1 i2 q2 d2 RV RL) (hm : RV[i1]? = some r) (ho : W.ownsRow w.heap.size 35 1 (.slice q9 (i1 + 1) e9) (i1 + 1) ((RV.take i1).map slV ++ [slV r])) (hg : wr.grownBy W (Value.slice q1 i1 d1).ownBlock) : PH w W p k c L (i1 + 1) q9 e9 i2 q2 d2 RV RL := by
  have o := h.v1
  refine ⟨own_grown h.row o (by decide) hg, h.rv.other o (by decide) hg, h.rl.other o (by decide) hg, h.lv, h.ll, ?_, own_grown h.v2 o (by decide) hg, h.fv, h.fl, h.bv, h.bl, h.kept.trans (TX.kg hg) (fun j hj z => by have := (own_lt o j z).1; omega)⟩
  rw [take_more hm, List.map_append]
  exact ho
/-- A grown list is put behind the others. -/
theorem PH.pushL {w wr W : World} {p : Option Addr} {k c : Nat} {L : List Sm} {i1 i2 : Nat} {q1 q2 q9 : Option Addr} {d1 d2 e9 : Nat} {RV RL : List Rw} {r : Rw} (h : PH w wr p k c L i1 q1 d1 i2 q2 d2 RV RL) (hm : RL[i2]? = some r) (ho : W.ownsRow w.heap.size 36 1 (.slice q9 (i2 + 1) e9) (i2 + 1) ((RL.take i2).map slV ++ [slV r])) (hg : wr.grownBy W (Value.slice q2 i2 d2).ownBlock) : PH w W p k c L i1 q1 d1 (i2 + 1) q9 e9 RV RL := by
  have o := h.v2
  refine ⟨own_grown h.row o (by decide) hg, h.rv.other o (by decide) hg, h.rl.other o (by decide) hg, h.lv, h.ll, own_grown h.v1 o (by decide) hg, ?_, h.fv, h.fl, h.bv, h.bl, h.kept.trans (TX.kg hg) (fun j hj z => by have := (own_lt o j z).1; omega)⟩
  rw [take_more hm, List.map_append]
  exact ho
end Go.Proofs.YtonfefhegghapaaDoor
