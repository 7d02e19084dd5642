import Derived.Test.YtbnnmelkbjkkjaaFar
import Derived.Test.YtbnnmelkbjkkjaaTearMath
namespace Go.Proofs.Ytbnnmelkbjkkjaa
open Go.RowKit

structure Sli where
  a : Option Addr
  len : Nat
  cap : Nat
  l : List Nat
structure Datas (w : World) (q : Option Addr) (n cap : Nat) (D : List Sli) : Prop where
  length : D.length = n
  room : n ≤ cap
  small : cap ≤ maxLen
  cells : 0 < n → ∃ b off, q = some ⟨b, off, none⟩ ∧ ∀ i (h : i < D.length), w.cell? ⟨b, off + i, none⟩ = some (.slice D[i].a D[i].len D[i].cap)
  reads : ∀ s ∈ D, Reads w s.a s.len s.cap s.l
def sumD (D : List Sli) : Nat := (D.map Sli.len).sum
/-- The pieces that have bytes. -/
def pcs (D : List Sli) : List (List Nat) := (D.map Sli.l).filter (fun l => decide (l.length ≠ 0))
def lensOf (D : List Sli) : List Nat := (pcs D).map List.length
def icells (ns : List Nat) : List Value := ns.map (fun n : Nat => Value.int .i64 (n : Int))
def tA (l : List Nat) (D : List Sli) (i : Nat) : AB := ⟨l, (pcs (D.take i)).map some, l, [], 0, i, false, 0, false⟩
theorem pcs_snoc (D : List Sli) (s : Sli) : pcs (D ++ [s]) = if s.l.length = 0 then pcs D else pcs D ++ [s.l] := by
  unfold pcs
  rw [List.map_append, List.filter_append]
  split
  · rename_i h
    have h0 := List.eq_nil_of_length_eq_zero h
    simp [h0]
  · rename_i h
    have h0 : ¬ s.l = [] := fun z => h (by rw [z]; rfl)
    simp [h0]
theorem take_snoc {D : List Sli} {i : Nat} {s : Sli} (h : D[i]? = some s) : D.take (i + 1) = D.take i ++ [s] := by
  obtain ⟨hl, e⟩ := List.getElem?_eq_some_iff.1 h
  rw [List.take_succ_eq_append_getElem hl, e]
theorem tA_step (l : List Nat) {D : List Sli} {i : Nat} {s : Sli} (h : D[i]? = some s) : ((tA l D i).tick.add 0 s.l).counted = tA l D (i + 1) := by
  unfold tA
  rw [take_snoc h, pcs_snoc]
  unfold AB.add
  split
  · rfl
  · simp [AB.more, AB.counted, AB.tick]
theorem pcs_flat (D : List Sli) : (pcs D).flatten = (D.map Sli.l).flatten := by
  induction D with
  | nil => rfl
  | cons s D ih =>
    unfold pcs at ih ⊢
    rw [List.map_cons, List.filter_cons]
    split
    · rw [List.flatten_cons, List.flatten_cons, ih]
    · rename_i h
      have h0 : s.l = [] := List.eq_nil_of_length_eq_zero (by simpa using h)
      rw [List.flatten_cons, h0, List.nil_append, ih]
theorem Try.info3 : (Try.prog.info? 3).map (fun i => (i.zero, i.size, i.bytes)) = some (some (.int .i64 0), 1, 8) := by kernel_rfl
/-- In the middle of the pieces. -/
structure TS (w wr : World) (B : Nat) (l : List Nat) (D : List Sli) (i : Nat) (pf : Option Addr) (nf cf : Nat) (pl : Option Addr) (nl cl : Nat) : Prop where
  hx : HX w wr B (tA l D i) (fun k => blockOf pf = some k ∨ blockOf pl = some k)
  full : wr.ownsRow w.heap.size 5 1 (.slice pf nf cf) nf (cellsOf (l ++ (pcs (D.take i)).flatten))
  lens : wr.ownsRow w.heap.size 3 1 (.slice pl nl cl) nl (icells (lensOf (D.take i)))
theorem src_int1 (w : World) (n : Nat) : Src Try.prog 1 24 (.slice (some ⟨w.heap.size, 0, none⟩) 1 1) 1 (icells [n]) (w.alloc (.cells #[.int .i64 (n : Int)] 3)) := by
  refine Src.ofSlice _ Try.underlying24 _ 1 1 _ rfl (fun j u hj => ?_) (fun u hu => by rw [List.mem_singleton.1 hu]; rfl)
  have hlt := (List.getElem?_eq_some_iff.1 hj).1
  have e0 : j = 0 := by simp [icells] at hlt; omega
  subst e0
  simp [icells] at hj
  subst hj
  exact cell_blk (alloc_new w (.cells #[.int .i64 (n : Int)] 3)) 0 rfl
theorem own_ne {w : World} {b1 b2 : Nat} {a1 a2 : Option Addr} {n1 c1 n2 c2 : Nat} {x1 x2 : List Value} {t1 t2 : TypeId} (h1 : w.ownsRow b1 t1 1 (.slice a1 n1 c1) n1 x1) (h2 : w.ownsRow b2 t2 1 (.slice a2 n2 c2) n2 x2) (ht : t1 ≠ t2) : ∀ k, blockOf a1 = some k → blockOf a2 ≠ some k := fun k k1 k2 => by
  obtain ⟨s1, e1⟩ := own_type h1 k k1
  obtain ⟨s2, e2⟩ := own_type h2 k k2
  rw [e1] at e2
  simp at e2
  exact ht e2.2
/-- The piece is put behind the full text. -/
theorem TS.grow {w wr w4 : World} {B : Nat} {l : List Nat} {D : List Sli} {i j : Nat} {pf : Option Addr} {nf cf : Nat} {pl : Option Addr} {nl cl : Nat} {m : Nat} {xs : List Nat} {p : Option Addr} {c : Nat} (hx : HX w wr B (tA l D j) (fun k => blockOf pf = some k ∨ blockOf pl = some k)) (hf : wr.ownsRow w.heap.size 5 1 (.slice pf nf cf) nf (cellsOf xs)) (hl : wr.ownsRow w.heap.size 3 1 (.slice pl nl cl) nl (icells (lensOf (D.take i))))
    (ys : List Nat) (ho : w4.ownsRow w.heap.size 5 1 (.slice p (nf + m) c) (nf + m) (cellsOf ys)) (hg : wr.grownBy w4 (Value.slice pf nf cf).ownBlock) (hn : (Value.slice p (nf + m) c).ownBlock = (Value.slice pf nf cf).ownBlock ∨ ((Value.slice p (nf + m) c).ownBlock = some wr.heap.size ∧ wr.grownBy w4 none)) :
    HX w w4 B (tA l D j) (fun k => blockOf p = some k ∨ blockOf pl = some k) ∧ w4.ownsRow w.heap.size 3 1 (.slice pl nl cl) nl (icells (lensOf (D.take i))) := by
  rw [blockOf_own] at hg hn
  rw [blockOf_own] at hn
  have K : Kept (fun k => blockOf pf = some k) wr w4 := (Kept.refl _ _).grown hg (fun k _ z => z.symm ▸ rfl)
  have hl4 := K.owns hl (fun k hk z => own_ne hf hl (by decide) k z (by rw [← hk]; exact (blockOf_own ..).symm))
  refine ⟨hx.beside (K.mono (fun k _ z => .inl z)) (fun k hk => ?_) (fun k hk => ?_), hl4⟩
  · rcases hk with z | z
    · exact (own_lt hf k z).1
    · exact (own_lt hl k z).1
  · rcases hk with z | z
    · refine ⟨(own_lt ho k z).2, ?_⟩
      rcases hn with q | ⟨q, _⟩
      · exact .inl (.inl (by rw [← q]; exact z))
      · rw [q] at z; simp at z; exact .inr (by omega)
    · exact ⟨(own_lt hl4 k z).2, .inl (.inr z)⟩
theorem TS.growL {w wr W w4 : World} {B : Nat} {l : List Nat} {D : List Sli} {j : Nat} {pf : Option Addr} {nf cf : Nat} {pl : Option Addr} {nl cl : Nat} {xs : List Nat} {zs : List Value} {p : Option Addr} {c : Nat} (hx : HX w wr B (tA l D j) (fun k => blockOf pf = some k ∨ blockOf pl = some k)) (hf : wr.ownsRow w.heap.size 5 1 (.slice pf nf cf) nf (cellsOf xs)) (hl : wr.ownsRow w.heap.size 3 1 (.slice pl nl cl) nl zs) (KW : Kept (fun _ => False) wr W)
    (ys : List Value) (ho : w4.ownsRow w.heap.size 3 1 (.slice p (nl + 1) c) (nl + 1) ys) (hg : W.grownBy w4 (Value.slice pl nl cl).ownBlock) (hn : (Value.slice p (nl + 1) c).ownBlock = (Value.slice pl nl cl).ownBlock ∨ ((Value.slice p (nl + 1) c).ownBlock = some W.heap.size ∧ W.grownBy w4 none)) :
    HX w w4 B (tA l D j) (fun k => blockOf pf = some k ∨ blockOf p = some k) ∧ w4.ownsRow w.heap.size 5 1 (.slice pf nf cf) nf (cellsOf xs) := by
  rw [blockOf_own] at hg hn
  rw [blockOf_own] at hn
  have hx2 := hx.quiet KW
  have hf2 := KW.owns hf (fun _ _ z => z)
  have hl2 := KW.owns hl (fun _ _ z => z)
  have K : Kept (fun k => blockOf pl = some k) W w4 := (Kept.refl _ _).grown hg (fun k _ z => z.symm ▸ rfl)
  have hf4 := K.owns hf2 (fun k hk z => own_ne hl2 hf2 (by decide) k z (by rw [← hk]; exact (blockOf_own ..).symm))
  refine ⟨hx2.beside (K.mono (fun k _ z => .inr z)) (fun k hk => ?_) (fun k hk => ?_), hf4⟩
  · rcases hk with z | z
    · exact (own_lt hf2 k z).1
    · exact (own_lt hl2 k z).1
  · rcases hk with z | z
    · exact ⟨(own_lt hf4 k z).2, .inl (.inl z)⟩
    · refine ⟨(own_lt ho k z).2, ?_⟩
      rcases hn with q | ⟨q, _⟩
      · exact .inl (.inr (by rw [← q]; exact z))
      · rw [q] at z; simp at z; exact .inr (by omega)
end Go.Proofs.Ytbnnmelkbjkkjaa
