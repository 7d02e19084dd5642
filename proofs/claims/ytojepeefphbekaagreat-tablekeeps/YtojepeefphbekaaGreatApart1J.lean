import Derived.Test.YtojepeefphbekaaGreatEntsO
import Derived.Test.YtojepeefphbekaaGreatUpdsO
namespace Go.Proofs.YtojepeefphbekaaGreat
open Go.RowKit 

abbrev B3 : Type := Option Addr × Nat × Nat
def sl3 (e : B3) : Value := .slice e.1 e.2.1 e.2.2
def bcells (T : List B3) : List Value := T.map sl3
theorem bcells_append (l m : List B3) : bcells (l ++ m) = bcells l ++ bcells m := List.map_append
/-- Lists of bytes, each its own. -/
structure OL (b0 : Nat) (w : World) (T : List B3) : Prop where
  own : ∀ e ∈ T, e.2.1 ≤ 140737488355328 ∧ ∃ xs, w.ownsRow b0 5 1 (.slice e.1 e.2.1 e.2.2) e.2.1 xs
  apart : T.Pairwise fun e e' => ∀ k, blockOf e.1 = some k → blockOf e'.1 ≠ some k
theorem OL.nil (b0 : Nat) (w : World) : OL b0 w [] := ⟨fun e he => (by cases he), List.Pairwise.nil⟩
theorem OL.off {S : Nat → Prop} {b0 : Nat} {w w' : World} {T : List B3} (h : OL b0 w T) (K : Kept S w w') (hn : ∀ k cs, w.heap[k]? = some (.cells cs 5 (0, 0)) → ¬ S k) : OL b0 w' T := by
  refine ⟨fun e he => ?_, h.apart⟩
  obtain ⟨h1, xs, ow⟩ := h.own e he
  refine ⟨h1, xs, K.owns ow (fun k hk => ?_)⟩
  obtain ⟨cs, hc⟩ := own_type ow k (by rw [← blockOf_own]; exact hk)
  exact hn k cs hc
theorem OL.lt {b0 : Nat} {w : World} {T : List B3} (h : OL b0 w T) {e : B3} (he : e ∈ T) {k : Nat} (hk : blockOf e.1 = some k) : b0 ≤ k ∧ k < w.heap.size := by
  obtain ⟨_, xs, ow⟩ := h.own e he
  exact own_lt ow k hk
theorem OL.mono {b0 b1 : Nat} {w : World} {T : List B3} (h : OL b1 w T) (hb : b0 ≤ b1) : OL b0 w T := by
  refine ⟨fun e he => ?_, h.apart⟩
  obtain ⟨h1, xs, ow⟩ := h.own e he
  exact ⟨h1, xs, owns_mono ow hb⟩
theorem OL.app {b0 b1 : Nat} {w : World} {T T' : List B3} (h : OL b0 w T) (h' : OL b1 w T') (hb : b0 ≤ b1) (old : ∀ f ∈ T, ∀ k, blockOf f.1 = some k → k < b1) : OL b0 w (T ++ T') := by
  refine ⟨fun e he => ?_, List.pairwise_append.2 ⟨h.apart, h'.apart, fun a ha b hb' k hk z => ?_⟩⟩
  · rcases List.mem_append.1 he with z | z
    · exact h.own e z
    · exact (h'.mono hb).own e z
  · have h1 := old a ha k hk
    have h2 := (h'.lt hb' z).1
    omega
def d3 (e : Et6) : B3 := (e.2.2.2.1, e.2.2.2.2.1, e.2.2.2.2.2)
theorem EOwn.ol {b0 : Nat} {w : World} {L : List Et6} (h : EOwn b0 w L) : OL b0 w (L.map d3) := by
  refine ⟨fun e he => ?_, List.pairwise_map.2 h.apart⟩
  obtain ⟨x, hx, rfl⟩ := List.mem_map.1 he
  exact h.own x hx
/-- The mark of a list. -/
def mark (m : Nat) : Value := .int .u8 ((m : Int) % 256)
/-- The first i are marked. -/
structure MKd (b0 : Nat) (w : World) (T : List B3) (i : Nat) : Prop where
  small : ∀ e ∈ T, e.2.1 ≤ 140737488355328
  old : ∀ m (h : m < T.length), i ≤ m → ∃ xs, w.ownsRow b0 5 1 (.slice T[m].1 T[m].2.1 T[m].2.2) T[m].2.1 xs
  new : ∀ m (h : m < T.length), m < i → w.ownsRow b0 5 1 (.slice T[m].1 T[m].2.1 T[m].2.2) T[m].2.1 (List.replicate T[m].2.1 (mark m))
  apart : ∀ m m' (h : m < T.length) (h' : m' < T.length), m ≠ m' → ∀ k, blockOf T[m].1 = some k → blockOf T[m'].1 ≠ some k
theorem OL.mkd {b0 : Nat} {w : World} {T : List B3} (h : OL b0 w T) : MKd b0 w T 0 := by
  refine ⟨fun e he => (h.own e he).1, fun m hm _ => (h.own _ (List.getElem_mem hm)).2, fun m hm z => absurd z (Nat.not_lt_zero _), fun m m' hm hm' hne k hk z => ?_⟩
  have p := List.pairwise_iff_getElem.1 h.apart
  rcases Nat.lt_or_gt_of_ne hne with q | q
  · exact p m m' hm hm' q k hk z
  · exact p m' m hm' hm q k z hk
theorem MKd.any {b0 : Nat} {w : World} {T : List B3} {i : Nat} (h : MKd b0 w T i) {m : Nat} (hm : m < T.length) : ∃ xs, w.ownsRow b0 5 1 (.slice T[m].1 T[m].2.1 T[m].2.2) T[m].2.1 xs := by
  rcases Nat.lt_or_ge m i with q | q
  · exact ⟨_, h.new m hm q⟩
  · exact h.old m hm q
/-- A block of bytes that is none of another list's. -/
theorem MKd.k {S : Nat → Prop} {b0 : Nat} {w w' : World} {T : List B3} {i : Nat} (h : MKd b0 w T i) (K : Kept S w w') (hn : ∀ k cs, w.heap[k]? = some (.cells cs 5 (0, 0)) → ¬ S k) : MKd b0 w' T i := by
  refine ⟨h.small, fun m hm z => ?_, fun m hm z => ?_, h.apart⟩
  · obtain ⟨xs, ow⟩ := h.old m hm z
    refine ⟨xs, K.owns ow (fun k hk => ?_)⟩
    obtain ⟨cs, hc⟩ := own_type ow k (by rw [← blockOf_own]; exact hk)
    exact hn k cs hc
  · have ow := h.new m hm z
    refine K.owns ow (fun k hk => ?_)
    obtain ⟨cs, hc⟩ := own_type ow k (by rw [← blockOf_own]; exact hk)
    exact hn k cs hc
/-- One more is marked. -/
theorem MKd.step {b0 : Nat} {w w' : World} {T : List B3} {i : Nat} (h : MKd b0 w T i) (hi : i < T.length) (K : Kept (fun k => blockOf T[i].1 = some k) w w') (ow : w'.ownsRow b0 5 1 (.slice T[i].1 T[i].2.1 T[i].2.2) T[i].2.1 (List.replicate T[i].2.1 (mark i))) : MKd b0 w' T (i + 1) := by
  refine ⟨h.small, fun m hm z => ?_, fun m hm z => ?_, h.apart⟩
  · obtain ⟨xs, o⟩ := h.old m hm (by omega)
    exact ⟨xs, K.owns o (fun k hk y => h.apart i m hi hm (by omega) k y (by rw [← blockOf_own]; exact hk))⟩
  · by_cases e : m = i
    · subst e
      exact ow
    · exact K.owns (h.new m hm (by omega)) (fun k hk y => h.apart i m hi hm (by omega) k y (by rw [← blockOf_own]; exact hk))
theorem set_mark (xs : List Value) (v : Value) (j : Nat) (hj : j < xs.length) : (List.replicate j v ++ xs.drop j).set j v = List.replicate (j + 1) v ++ xs.drop (j + 1) := by
  rw [List.set_append_right _ _ (by simp), List.length_replicate, Nat.sub_self, List.drop_eq_getElem_cons hj, List.set_cons_zero, List.replicate_succ']
  simp
theorem own_len1 {w : World} {b0 ty : Nat} {p : Option Addr} {n c : Nat} {xs : List Value} (h : w.ownsRow b0 ty 1 (.slice p n c) n xs) : xs.length = n := by
  have := h.1
  omega
theorem own_at {w : World} {b0 ty : Nat} {p : Option Addr} {n c : Nat} {xs : List Value} (h : w.ownsRow b0 ty 1 (.slice p n c) n xs) {j : Nat} (hj : j < n) : ∃ b, p = some ⟨b, 0, none⟩ ∧ ∃ v, xs[j]? = some v ∧ w.cell? ⟨b, j, none⟩ = some v := by
  have hl := own_len1 h
  rcases h.2 with ⟨_, hn⟩ | ⟨b, cap, cur, z, _⟩
  · omega
  · have z : Value.slice p n c = .slice (some ⟨b, 0, none⟩) n cap := z
    injection z with z1 _ z3
    subst z1
    subst z3
    have hc := h.cells (g := b) rfl j xs[j] (List.getElem?_eq_getElem (by omega))
    rw [Addr.add_none, Nat.zero_add] at hc
    exact ⟨b, rfl, xs[j], List.getElem?_eq_getElem (by omega), hc⟩
/-- A list reads as its mark. -/
def Mrk (w : World) (e : B3) (n m : Nat) : Prop := ∀ q, q < n → ∃ b, e.1 = some ⟨b, 0, none⟩ ∧ w.cell? ⟨b, q, none⟩ = some (mark m)
theorem mrk_of {w : World} {b0 : Nat} {p : Option Addr} {n c m : Nat} (h : w.ownsRow b0 5 1 (.slice p n c) n (List.replicate n (mark m))) : Mrk w (p, n, c) n m := by
  intro q hq
  obtain ⟨b, e, v, hv, hc⟩ := own_at h hq
  rw [List.getElem?_replicate_of_lt hq] at hv
  have := Option.some.inj hv
  subst this
  exact ⟨b, e, hc⟩
theorem Mrk.k {S : Nat → Prop} {w w' : World} {e : B3} {n m : Nat} (h : Mrk w e n m) (K : Kept S w w') (hn : ∀ k, blockOf e.1 = some k → ¬ S k) : Mrk w' e n m := by
  intro q hq
  obtain ⟨b, e1, hc⟩ := h q hq
  exact ⟨b, e1, K.cell hc (hn b (by rw [e1]; rfl))⟩
theorem Mrk.le {w : World} {e : B3} {n n' m : Nat} (h : Mrk w e n m) (hn : n' ≤ n) : Mrk w e n' m := fun q hq => h q (by omega)
/-- What the second loop of 'apart' has made. -/
structure AP (b0 : Nat) (w : World) (T M : List B3) (i : Nat) (p : Option Addr) (c : Nat) : Prop where
  small : ∀ e ∈ T, e.2.1 ≤ 140737488355328
  len : M.length = i
  row : w.ownsRow b0 38 1 (.slice p i c) i (bcells M)
  ts : ∀ m (h : m < T.length), Mrk w T[m] T[m].2.1 m
  own : ∀ m (h : m < T.length), i ≤ m → w.ownsRow b0 5 1 (.slice T[m].1 T[m].2.1 T[m].2.2) T[m].2.1 (List.replicate T[m].2.1 (mark m))
  ms : ∀ m (h : m < M.length) (h' : m < T.length), M[m].2.1 = T[m].2.1 + 1 ∧ M[m].2.1 ≤ M[m].2.2 ∧ M[m].2.2 ≤ maxLen ∧ Mrk w M[m] M[m].2.1 m
  five : ∀ m (h : m < M.length) k, blockOf M[m].1 = some k → k < w.heap.size ∧ ∃ cs, w.heap[k]? = some (.cells cs 5 (0, 0))
  ft : ∀ m (h : m < T.length) k, blockOf T[m].1 = some k → k < w.heap.size ∧ ∃ cs, w.heap[k]? = some (.cells cs 5 (0, 0))
  apart : ∀ m m' (h : m < T.length) (h' : m' < T.length), m ≠ m' → ∀ k, blockOf T[m].1 = some k → blockOf T[m'].1 ≠ some k
  mt : ∀ m m' (h : m < M.length) (h' : m' < T.length), i ≤ m' → ∀ k, blockOf M[m].1 = some k → blockOf T[m'].1 ≠ some k
theorem MKd.ap {b0 : Nat} {w : World} {T : List B3} (h : MKd b0 w T T.length) : AP b0 w T [] 0 none 0 := by
  refine ⟨h.small, rfl, ⟨rfl, .inl ⟨rfl, rfl⟩⟩, fun m hm => ?_, fun m hm _ => h.new m hm hm, fun m hm => absurd hm (Nat.not_lt_zero _), fun m hm => absurd hm (Nat.not_lt_zero _), fun m hm k hk => ⟨(own_lt (h.new m hm hm) k hk).2, own_typ (h.new m hm hm) hk⟩, h.apart, fun m m' hm => absurd hm (Nat.not_lt_zero _)⟩
  have := mrk_of (h.new m hm hm)
  exact this
theorem AP.k {S : Nat → Prop} {b0 : Nat} {w w' : World} {T M : List B3} {i : Nat} {p : Option Addr} {c : Nat} (h : AP b0 w T M i p c) (K : Kept S w w') (hn : ∀ k cs ty, ty = 5 ∨ ty = 38 → w.heap[k]? = some (.cells cs ty (0, 0)) → ¬ S k) : AP b0 w' T M i p c := by
  refine ⟨h.small, h.len, K.owns h.row (fun k hk => ?_), fun m hm => (h.ts m hm).k K (fun k hk => ?_), fun m hm z => K.owns (h.own m hm z) (fun k hk => ?_), fun m hm hm' => ?_, fun m hm k hk => ?_, fun m hm k hk => ?_, h.apart, h.mt⟩
  · obtain ⟨cs, hc⟩ := own_typ h.row (by rw [← blockOf_own]; exact hk)
    exact hn k cs 38 (.inr rfl) hc
  · obtain ⟨_, cs, hc⟩ := h.ft m hm k hk
    exact hn k cs 5 (.inl rfl) hc
  · obtain ⟨cs, hc⟩ := own_typ (h.own m hm z) (by rw [← blockOf_own]; exact hk)
    exact hn k cs 5 (.inl rfl) hc
  · obtain ⟨q1, q2, q3, q4⟩ := h.ms m hm hm'
    refine ⟨q1, q2, q3, q4.k K (fun k hk => ?_)⟩
    obtain ⟨_, cs, hc⟩ := h.five m hm k hk
    exact hn k cs 5 (.inl rfl) hc
  · obtain ⟨h1, cs, hc⟩ := h.five m hm k hk
    exact ⟨Nat.lt_of_lt_of_le h1 K.size, cs, K.get hc (hn k cs 5 (.inl rfl) hc)⟩
  · obtain ⟨h1, cs, hc⟩ := h.ft m hm k hk
    exact ⟨Nat.lt_of_lt_of_le h1 K.size, cs, K.get hc (hn k cs 5 (.inl rfl) hc)⟩
end Go.Proofs.YtojepeefphbekaaGreat

namespace Go.Proofs.YtojepeefphbekaaGreat
open Go.RowKit 

theorem AP.step {b0 : Nat} {w w9 w10 : World} {T M : List B3} {i : Nat} {p p9 p10 : Option Addr} {c c9 c10 : Nat} {o1 o2 : Obj} (h : AP b0 w T M i p c) (hi : i < T.length)
    (ho : w9.ownsRow b0 5 1 (.slice p9 (T[i].2.1 + 1) c9) (T[i].2.1 + 1) (List.replicate T[i].2.1 (mark i) ++ [mark i])) (hg : (w.alloc o1).grownBy w9 (Value.slice T[i].1 T[i].2.1 T[i].2.2).ownBlock)
    (hn : (Value.slice p9 (T[i].2.1 + 1) c9).ownBlock = (Value.slice T[i].1 T[i].2.1 T[i].2.2).ownBlock ∨ ((Value.slice p9 (T[i].2.1 + 1) c9).ownBlock = some (w.alloc o1).heap.size ∧ (w.alloc o1).grownBy w9 none))
    (ho2 : w10.ownsRow b0 38 1 (.slice p10 (i + 1) c10) (i + 1) (bcells M ++ [.slice p9 (T[i].2.1 + 1) c9])) (hg2 : (w9.alloc o2).grownBy w10 (Value.slice p i c).ownBlock) :
    AP b0 w10 T (M ++ [(p9, T[i].2.1 + 1, c9)]) (i + 1) p10 c10 ∧ Kept (fun k => blockOf T[i].1 = some k) w w9 ∧ Kept (fun k => blockOf p = some k) w9 w10 := by
  have K1 : Kept (fun k => blockOf T[i].1 = some k) w w9 := ((Kept.refl (fun k => blockOf T[i].1 = some k) w).alloc _).grown hg (fun k _ z => by rw [blockOf_own] at z; exact z)
  have K2 : Kept (fun k => blockOf p = some k) w9 w10 := ((Kept.refl (fun k => blockOf p = some k) w9).alloc _).grown hg2 (fun k _ z => by rw [blockOf_own] at z; exact z)
  have er : List.replicate T[i].2.1 (mark i) ++ [mark i] = List.replicate (T[i].2.1 + 1) (mark i) := List.replicate_succ'.symm
  rw [er] at ho
  have oi := h.own i hi (Nat.le_refl _)
  have row9 : w9.ownsRow b0 38 1 (.slice p i c) i (bcells M) := K1.owns h.row (fun k hk z => by
    obtain ⟨c1, h1⟩ := own_typ h.row (by rw [← blockOf_own]; exact hk)
    obtain ⟨c2, h2⟩ := own_typ oi z
    rw [h1] at h2
    simp at h2)
  have ng : ∀ k cs, w9.heap[k]? = some (.cells cs 5 (0, 0)) → ¬ blockOf p = some k := fun k cs hc z => by
    obtain ⟨c2, h2⟩ := own_typ row9 z
    rw [h2] at hc
    simp at hc
  have oth : ∀ m (hm : m < T.length), i + 1 ≤ m → w9.ownsRow b0 5 1 (.slice T[m].1 T[m].2.1 T[m].2.2) T[m].2.1 (List.replicate T[m].2.1 (mark m)) := fun m hm z => K1.owns (h.own m hm (by omega)) (fun k hk y => h.apart i m hi hm (by omega) k y (by rw [← blockOf_own]; exact hk))
  have mi := mrk_of ho
  have ti : Mrk w9 T[i] T[i].2.1 i := by
    rcases hn with e | ⟨e, g0⟩
    · intro q hq
      obtain ⟨b, e1, _⟩ := h.ts i hi q hq
      obtain ⟨b', e2, hc⟩ := mi q (by omega)
      rw [blockOf_own, blockOf_own, e1] at e
      have e2 : p9 = some ⟨b', 0, none⟩ := e2
      rw [e2] at e
      have e : b' = b := Option.some.inj e
      rw [e] at hc
      exact ⟨b, e1, hc⟩
    · have K0 : Kept (fun _ => False) w w9 := ((Kept.refl (fun _ => False) w).alloc _).grown g0 (fun k _ z => by cases z)
      exact (h.ts i hi).k K0 (fun _ _ z => z)
  have t9 : ∀ m (hm : m < T.length), Mrk w9 T[m] T[m].2.1 m := fun m hm => by
    by_cases e : m = i
    · subst e; exact ti
    · exact (h.ts m hm).k K1 (fun k hk y => h.apart i m hi hm (fun z => e z.symm) k y hk)
  have five9 : ∀ m (hm : m < M.length) k, blockOf M[m].1 = some k → k < w9.heap.size ∧ ∃ cs, w9.heap[k]? = some (.cells cs 5 (0, 0)) := fun m hm k hk => by
    obtain ⟨h1, cs, hc⟩ := h.five m hm k hk
    exact ⟨Nat.lt_of_lt_of_le h1 K1.size, cs, K1.get hc (fun z => h.mt m i hm hi (Nat.le_refl _) k hk z)⟩
  have new9 : ∀ k, blockOf p9 = some k → k < w9.heap.size ∧ ∃ cs, w9.heap[k]? = some (.cells cs 5 (0, 0)) := fun k hk => ⟨(own_lt ho k hk).2, own_typ ho hk⟩
  have ft9 : ∀ m (hm : m < T.length) k, blockOf T[m].1 = some k → k < w9.heap.size ∧ ∃ cs, w9.heap[k]? = some (.cells cs 5 (0, 0)) := fun m hm k hk => by
    obtain ⟨h1, cs, hc⟩ := h.ft m hm k hk
    refine ⟨Nat.lt_of_lt_of_le h1 K1.size, ?_⟩
    by_cases e2 : m = i
    · subst e2
      rcases hn with e | ⟨e, g0⟩
      · rw [blockOf_own, blockOf_own, hk] at e
        exact own_typ ho e
      · have K0 : Kept (fun _ => False) w w9 := ((Kept.refl (fun _ => False) w).alloc _).grown g0 (fun k _ z => by cases z)
        exact ⟨cs, K0.get hc (fun z => z)⟩
    · exact ⟨cs, K1.get hc (fun z => h.apart i m hi hm (fun z => e2 z.symm) k z hk)⟩
  have Ml : ∀ m (hm : m < (M ++ [(p9, T[i].2.1 + 1, c9)]).length), (∃ hm' : m < M.length, (M ++ [(p9, T[i].2.1 + 1, c9)])[m] = M[m]) ∨ (m = i ∧ (M ++ [(p9, T[i].2.1 + 1, c9)])[m] = (p9, T[i].2.1 + 1, c9)) := by
    intro m hm
    rw [List.length_append, List.length_singleton, h.len] at hm
    by_cases e : m < M.length
    · exact .inl ⟨e, List.getElem_append_left e⟩
    · have e3 : m = i := by rw [h.len] at e; omega
      refine .inr ⟨e3, ?_⟩
      rw [List.getElem_append_right (by omega)]
      simp [h.len, e3]
  have sz2 := K2.size
  refine ⟨⟨h.small, by rw [List.length_append, h.len]; rfl, ?_, fun m hm => (t9 m hm).k K2 (fun k hk => ?_), fun m hm z => K2.owns (oth m hm z) (fun k hk => ?_), fun m hm hm' => ?_, fun m hm k hk => ?_, fun m hm k hk => ?_, h.apart, fun m m' hm hm' hz k hk z => ?_⟩, K1, K2⟩
  · rw [bcells_append]
    exact ho2
  · obtain ⟨_, cs, hc⟩ := ft9 m hm k hk
    exact ng k cs hc
  · obtain ⟨cs, hc⟩ := own_typ (oth m hm z) (by rw [← blockOf_own]; exact hk)
    exact ng k cs hc
  · rcases Ml m hm with ⟨e, q⟩ | ⟨rfl, q⟩
    · rw [q]
      obtain ⟨q1, q2, q3, q4⟩ := h.ms m e hm'
      refine ⟨q1, q2, q3, (q4.k K1 (fun k hk z => h.mt m i e hi (Nat.le_refl _) k hk z)).k K2 (fun k hk => ?_)⟩
      obtain ⟨_, cs, hc⟩ := five9 m e k hk
      exact ng k cs hc
    · rw [q]
      have rm := own_room ho
      refine ⟨rfl, rm.1, rm.2, mi.k K2 (fun k hk => ?_)⟩
      obtain ⟨_, cs, hc⟩ := new9 k hk
      exact ng k cs hc
  · rcases Ml m hm with ⟨e, q⟩ | ⟨_, q⟩
    · rw [q] at hk
      obtain ⟨h1, cs, hc⟩ := five9 m e k hk
      exact ⟨by omega, cs, K2.get hc (ng k cs hc)⟩
    · rw [q] at hk
      obtain ⟨h1, cs, hc⟩ := new9 k hk
      exact ⟨by omega, cs, K2.get hc (ng k cs hc)⟩
  · obtain ⟨h1, cs, hc⟩ := ft9 m hm k hk
    exact ⟨by omega, cs, K2.get hc (ng k cs hc)⟩
  · rcases Ml m hm with ⟨e, q⟩ | ⟨_, q⟩
    · rw [q] at hk
      exact h.mt m m' e hm' (by omega) k hk z
    · rw [q] at hk
      have hk : blockOf p9 = some k := hk
      rcases hn with e | ⟨e, _⟩
      · rw [blockOf_own, blockOf_own, hk] at e
        exact h.apart i m' hi hm' (by omega) k e.symm z
      · rw [blockOf_own, hk] at e
        have e := Option.some.inj e
        have h1 := (h.ft m' hm' k z).1
        have h2 : w.heap.size ≤ (w.alloc o1).heap.size := (k0_alloc w o1).size
        omega
end Go.Proofs.YtojepeefphbekaaGreat
