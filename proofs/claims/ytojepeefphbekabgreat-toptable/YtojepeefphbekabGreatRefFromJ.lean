import Derived.Test.YtojepeefphbekabGreatCallsJ
import Derived.Test.YtojepeefphbekabGreatBaseJ
import Derived.Deep.DeepCutAuto
namespace Go.Proofs.YtojepeefphbekabGreat

theorem icmp_3 (a b : Int) : (a < b ∧ icmp a b = -1) ∨ (a = b ∧ icmp a b = 0) ∨ (b < a ∧ icmp a b = 1) := by
  unfold icmp
  by_cases h : a < b
  · exact .inl ⟨h, by simp [h]⟩
  · by_cases h2 : b < a
    · exact .inr (.inr ⟨h2, by simp [h, h2]⟩)
    · exact .inr (.inl ⟨by omega, by simp [h, h2]⟩)
/-- How two tags are ordered. -/
def tc (x y : Int × Int) : Int := tcmp x.1 x.2 y.1 y.2
theorem tc_3 (x y : Int × Int) : ((x.1 < y.1 ∨ x.1 = y.1 ∧ x.2 < y.2) ∧ tc x y = -1) ∨ (x = y ∧ tc x y = 0) ∨ ((y.1 < x.1 ∨ x.1 = y.1 ∧ y.2 < x.2) ∧ tc x y = 1) := by
  obtain ⟨a, b⟩ := x
  obtain ⟨c, d⟩ := y
  unfold tc tcmp orI
  simp only []
  rcases icmp_3 a c with ⟨h, e⟩ | ⟨h, e⟩ | ⟨h, e⟩
  · rw [e]; exact .inl ⟨.inl h, rfl⟩
  · rw [e]
    rcases icmp_3 b d with ⟨h', e'⟩ | ⟨h', e'⟩ | ⟨h', e'⟩
    · rw [e']; exact .inl ⟨.inr ⟨h, h'⟩, rfl⟩
    · rw [e']; exact .inr (.inl ⟨by rw [h, h'], rfl⟩)
    · rw [e']; exact .inr (.inr ⟨.inr ⟨h, h'⟩, rfl⟩)
  · rw [e]; exact .inr (.inr ⟨.inl h, rfl⟩)
theorem tc_self (x : Int × Int) : tc x x = 0 := by
  have := tc_3 x x
  omega
theorem tc_zero (x y : Int × Int) (h : tc x y = 0) : x = y := by
  rcases tc_3 x y with ⟨_, e⟩ | ⟨e, _⟩ | ⟨_, e⟩
  · omega
  · exact e
  · omega
theorem tc_lt (x y : Int × Int) : tc x y < 0 ↔ (x.1 < y.1 ∨ x.1 = y.1 ∧ x.2 < y.2) := by
  rcases tc_3 x y with ⟨h, e⟩ | ⟨h, e⟩ | ⟨h, e⟩
  · rw [e]; constructor
    · intro _; exact h
    · intro _; omega
  · subst h; rw [e]; constructor
    · intro q; omega
    · intro q; omega
  · rw [e]; constructor
    · intro q; omega
    · intro q; omega
theorem tc_trans (x y z : Int × Int) (h1 : tc x y < 0) (h2 : tc y z < 0) : tc x z < 0 := by
  rw [tc_lt] at h1 h2 ⊢
  omega
theorem tc_flip (x y : Int × Int) : (tc x y < 0 ↔ 0 < tc y x) := by
  rw [tc_lt]
  rcases tc_3 y x with ⟨g, e⟩ | ⟨e, f⟩ | ⟨g, e⟩
  · rw [e]
    constructor
    · intro q; omega
    · intro q; omega
  · subst e; rw [f]
    constructor
    · intro q; omega
    · intro q; omega
  · rw [e]
    constructor
    · intro q; omega
    · intro q; omega
/-- Rising, each once. -/
def Rising (S : List (Int × Int)) : Prop := S.Pairwise fun x y => tc x y < 0
/-- How many are ahead of t. -/
def ahead (S : List (Int × Int)) (t : Int × Int) : Nat := S.countP fun x => decide (tc x t < 0)
theorem ahead_perm {R S : List (Int × Int)} (h : R.Perm S) (t : Int × Int) : ahead R t = ahead S t := h.countP_eq _
theorem ahead_le (S : List (Int × Int)) (t : Int × Int) : ahead S t ≤ S.length := List.countP_le_length
theorem ahead_split : ∀ (S : List (Int × Int)) (t : Int × Int), Rising S → ∀ i (h : i < S.length), (tc S[i] t < 0 ↔ i < ahead S t)
  | [], _, _, i, h => absurd h (by simp)
  | x :: r, t, hs, i, h => by
    have hr : Rising r := (List.pairwise_cons.1 hs).2
    have hx := (List.pairwise_cons.1 hs).1
    by_cases hc : tc x t < 0
    · have e : ahead (x :: r) t = ahead r t + 1 := by unfold ahead; rw [List.countP_cons_of_pos (by simpa using hc)]
      cases i with
      | zero => simp [hc, e]
      | succ i =>
        have := ahead_split r t hr i (by simpa using h)
        rw [e]
        simp only [List.getElem_cons_succ]
        omega
    · have none : ∀ y ∈ r, ¬ tc y t < 0 := fun y hy q => by
        have h1 := hx y hy
        have := tc_trans x y t h1 q
        exact hc this
      have e : ahead (x :: r) t = 0 := by
        unfold ahead
        rw [List.countP_eq_zero]
        intro y hy
        rcases List.mem_cons.1 hy with rfl | hy
        · simpa using hc
        · simpa using none y hy
      rw [e]
      cases i with
      | zero => simp [hc]
      | succ i =>
        simp only [List.getElem_cons_succ]
        have := none _ (List.getElem_mem (by simpa using h : i < r.length))
        omega
theorem rising_get (S : List (Int × Int)) (h : Rising S) (i j : Nat) (hi : i < S.length) (hj : j < S.length) (hij : i < j) : tc S[i] S[j] < 0 := (List.pairwise_iff_getElem.1 h) i j hi hj hij
theorem ahead_at (S : List (Int × Int)) (h : Rising S) (i : Nat) (hi : i < S.length) : ahead S S[i] = i := by
  have a := ahead_split S S[i] h
  have le := ahead_le S S[i]
  rcases Nat.lt_trichotomy (ahead S S[i]) i with q | q | q
  · have := (a (ahead S S[i]) (by omega)).1 (rising_get S h _ _ (by omega) hi q)
    omega
  · exact q
  · have := (a i hi).2 q
    rw [tc_self] at this
    omega
/-- What a search finds. -/
theorem ahead_unique (S : List (Int × Int)) (t : Int × Int) (h : Rising S) (p : Nat) (hp : p ≤ S.length) (h1 : ∀ i (_ : i < S.length), i < p → tc S[i] t < 0) (h2 : ∀ i (_ : i < S.length), p ≤ i → ¬ tc S[i] t < 0) : p = ahead S t := by
  have a := ahead_split S t h
  have le := ahead_le S t
  rcases Nat.lt_trichotomy (ahead S t) p with q | q | q
  · have l : ahead S t < S.length := by omega
    have := (a _ l).1 (h1 _ l q)
    omega
  · exact q.symm
  · have l : p < S.length := by omega
    exact absurd ((a p l).2 q) (h2 p l (Nat.le_refl _))
theorem mem_iff (S : List (Int × Int)) (t : Int × Int) (h : Rising S) : t ∈ S ↔ S[ahead S t]? = some t := by
  constructor
  · intro m
    obtain ⟨i, hi, e⟩ := List.getElem_of_mem m
    have := ahead_at S h i hi
    rw [e] at this
    rw [this, List.getElem?_eq_getElem hi, e]
  · intro e
    exact List.mem_of_getElem? e
/-- One is put in. -/
def put (S : List (Int × Int)) (t : Int × Int) : List (Int × Int) := S.take (ahead S t) ++ t :: S.drop (ahead S t)
theorem put_rising (S : List (Int × Int)) (t : Int × Int) (h : Rising S) (hn : t ∉ S) : Rising (put S t) := by
  have a := ahead_split S t h
  unfold put Rising
  rw [List.pairwise_append]
  refine ⟨h.sublist (List.take_sublist _ _), ?_, ?_⟩
  · rw [List.pairwise_cons]
    refine ⟨fun y hy => ?_, h.sublist (List.drop_sublist _ _)⟩
    obtain ⟨i, hi, e⟩ := List.getElem_of_mem hy
    rw [List.getElem_drop] at e
    rw [List.length_drop] at hi
    have q : ¬ tc y t < 0 := by
      rw [← e]
      intro q
      have := (a _ (by omega)).1 q
      omega
    have ne : y ≠ t := by
      intro e2
      apply hn
      rw [← e2]
      exact List.mem_of_mem_drop hy
    rcases tc_3 y t with ⟨_, f⟩ | ⟨f, _⟩ | ⟨_, f⟩
    · omega
    · exact absurd f ne
    · exact (tc_flip t y).2 (by omega)
  · intro x hx y hy
    obtain ⟨i, hi, e⟩ := List.getElem_of_mem hx
    rw [List.getElem_take] at e
    rw [List.length_take] at hi
    have q : tc x t < 0 := by
      rw [← e]
      exact (a _ (by omega)).2 (by omega)
    rcases List.mem_cons.1 hy with rfl | hy
    · exact q
    · obtain ⟨j, hj, f⟩ := List.getElem_of_mem hy
      rw [List.getElem_drop] at f
      rw [List.length_drop] at hj
      rw [← e, ← f]
      exact rising_get S h _ _ _ _ (by omega)
theorem put_perm (S : List (Int × Int)) (t : Int × Int) : (put S t).Perm (t :: S) := by
  unfold put
  have h1 : (S.take (ahead S t) ++ t :: S.drop (ahead S t)).Perm (t :: (S.take (ahead S t) ++ S.drop (ahead S t))) := List.perm_middle
  rw [List.take_append_drop] at h1
  exact h1
theorem put_length (S : List (Int × Int)) (t : Int × Int) : (put S t).length = S.length + 1 := by
  have := (put_perm S t).length_eq
  simpa using this
theorem drop_rising (S : List (Int × Int)) (h : Rising S) (p : Nat) : Rising (S.drop p) := h.sublist (List.drop_sublist _ _)
theorem rising_nodup (S : List (Int × Int)) (h : Rising S) : S.Nodup := h.imp fun {a b} q e => by
  subst e
  rw [tc_self] at q
  omega
theorem filter_one (a : Int × Int) : ∀ l : List (Int × Int), l.Nodup → a ∈ l → l.filter (fun x => decide (x = a)) = [a]
  | [], _, h => absurd h (by simp)
  | x :: r, hn, hm => by
    have hn' := List.nodup_cons.1 hn
    by_cases e : x = a
    · subst e
      rw [List.filter_cons_of_pos (by simp)]
      congr 1
      rw [List.filter_eq_nil_iff]
      intro y hy q
      have : y = x := by simpa using q
      subst this
      exact hn'.1 hy
    · rw [List.filter_cons_of_neg (by simpa using e)]
      exact filter_one a r hn'.2 (by
        rcases List.mem_cons.1 hm with q | q
        · exact absurd q.symm e
        · exact q)
/-- Of a list in no order: those with n ahead of them. -/
theorem nth_of (R S : List (Int × Int)) (h : Rising S) (hp : R.Perm S) (n : Nat) (hn : n < S.length) : R.filter (fun x => decide (ahead R x = n)) = [S[n]] := by
  have e : R.filter (fun x => decide (ahead R x = n)) = R.filter (fun x => decide (ahead S x = n)) := by
    congr 1
    funext x
    rw [ahead_perm hp]
  rw [e]
  have f : S.filter (fun x => decide (ahead S x = n)) = [S[n]] := by
    have key : ∀ x ∈ S, decide (ahead S x = n) = decide (x = S[n]) := by
      intro x hx
      obtain ⟨i, hi, ex⟩ := List.getElem_of_mem hx
      have ai := ahead_at S h i hi
      rw [ex] at ai
      rw [ai]
      by_cases q : i = n
      · subst q
        rw [decide_eq_true rfl, decide_eq_true ex.symm]
      · have : x ≠ S[n] := by
          intro q2
          apply q
          have an := ahead_at S h n hn
          rw [← q2, ai] at an
          exact an
        rw [decide_eq_false q, decide_eq_false this]
    rw [List.filter_congr key]
    exact filter_one _ S (rising_nodup S h) (List.getElem_mem hn)
  have p2 := hp.filter (fun x => decide (ahead S x = n))
  rw [f] at p2
  exact List.perm_singleton.1 p2
end Go.Proofs.YtojepeefphbekabGreat

namespace Go.Proofs.YtojepeefphbekabGreat
open Go.RowKit

theorem below_dN {N : Nat} {a b : World} (h : Below N a b) (n : Nat) : Below N a (b.drewN n) := ⟨h.os, h.tape, h.output, h.size, h.block⟩
/-- A set that can be read: its block, and what its list reads as. -/
structure SV (w : World) (C ty : Nat) (a : Option Addr) (len cap : Nat) (R : List (Int × Int)) : Prop where
  blk : w.heap[C]? = some (.cells #[.slice a len cap] ty (0, 0))
  r : TReads w a len cap R
theorem SV.lt {w : World} {C ty : Nat} {a : Option Addr} {len cap : Nat} {R : List (Int × Int)} (h : SV w C ty a len cap R) : C < w.heap.size := (Array.getElem?_eq_some_iff.1 h.blk).1
theorem SV.by {w w' : World} {C ty : Nat} {a : Option Addr} {len cap : Nat} {R : List (Int × Int)} (h : SV w C ty a len cap R) (B : Below w.heap.size w w') : SV w' C ty a len cap R := ⟨(B.block C h.lt).trans h.blk, h.r.by B⟩
theorem SV.cell {w : World} {C ty : Nat} {a : Option Addr} {len cap : Nat} {R : List (Int × Int)} (h : SV w C ty a len cap R) : w.cell? ⟨C, 0, none⟩ = some (.slice a len cap) := by
  rw [cell_of_row w C 0 _ ty (0, 0) h.blk]; rfl
theorem SV.nums {w : World} {C ty : Nat} {a : Option Addr} {len cap : Nat} {R : List (Int × Int)} (h : SV w C ty a len cap R) : R.length = len ∧ len ≤ cap ∧ cap ≤ 9223372036854775807 := ⟨h.r.length, h.r.room, by have := h.r.small; unfold maxLen at this; omega⟩
theorem ahead_take (R : List (Int × Int)) (t : Int × Int) (i : Nat) (h : i < R.length) : ahead (R.take (i + 1)) t = ahead (R.take i) t + (if tc (R.getD i (0, 0)) t < 0 then 1 else 0) := by
  rw [List.take_succ_eq_append_getElem h, getD_at R i h]
  unfold ahead
  rw [List.countP_append]
  simp [List.countP_cons]
theorem mem_take (R : List (Int × Int)) (t : Int × Int) (i : Nat) (h : i < R.length) (hn : t ∉ R.take i) (hx : R.getD i (0, 0) ≠ t) : t ∉ R.take (i + 1) := by
  rw [List.take_succ_eq_append_getElem h]
  intro m
  rcases List.mem_append.1 m with q | q
  · exact hn q
  · rw [List.mem_singleton] at q
    apply hx
    rw [getD_at R i h, q]
end Go.Proofs.YtojepeefphbekabGreat

namespace Go.Proofs.YtojepeefphbekabGreat
open Go.RowKit

/-- What the inner loop has found. -/
def found (R : List (Int × Int)) (n j : Nat) : List (Int × Int) := (R.take j).filter fun x => decide (ahead R x = n)
theorem found_next (R : List (Int × Int)) (n j : Nat) (h : j < R.length) : found R n (j + 1) = found R n j ++ (if ahead R (R.getD j (0, 0)) = n then [R.getD j (0, 0)] else []) := by
  unfold found
  rw [List.take_succ_eq_append_getElem h, List.filter_append, getD_at R j h]
  congr 1
  by_cases q : ahead R R[j] = n
  · rw [if_pos q, List.filter_cons_of_pos (by simpa using q)]; rfl
  · rw [if_neg q, List.filter_cons_of_neg (by simpa using q)]; rfl
theorem found_all (R S : List (Int × Int)) (h : Rising S) (hp : R.Perm S) (n : Nat) (hn : n < S.length) : found R n R.length = [S[n]] := by
  unfold found
  rw [List.take_of_length_le (Nat.le_refl _)]
  exact nth_of R S h hp n hn
theorem found_le (R S : List (Int × Int)) (h : Rising S) (hp : R.Perm S) (n j : Nat) (hn : n < S.length) : (found R n j).length ≤ 1 := by
  have e := found_all R S h hp n hn
  have : (found R n j).length ≤ (found R n R.length).length := by
    unfold found
    apply List.Sublist.length_le
    apply List.Sublist.filter
    rw [List.take_of_length_le (Nat.le_refl _)]
    exact List.take_sublist _ _
  rw [e] at this
  simpa using this
theorem part_next (S : List (Int × Int)) (p n : Nat) (hp : p ≤ n) (hn : n < S.length) : (S.drop p).take (n - p) ++ [S[n]] = (S.drop p).take (n + 1 - p) := by
  have e : n + 1 - p = (n - p) + 1 := by omega
  rw [e, List.take_succ_eq_append_getElem (by rw [List.length_drop]; omega)]
  congr 2
  rw [List.getElem_drop]
  congr 1
  omega
theorem Below.grew0 {w wr w' : World} {v : Value} {n : Nat} {xs : List Value} (B : Below w.heap.size w wr) (o : wr.ownsRow w.heap.size 31 2 v n xs) (g : wr.grownBy w' v.ownBlock) : Below w.heap.size w w' := Below.grew B o g
end Go.Proofs.YtojepeefphbekabGreat
