import Derived.Test.YtgfglbbfoadiaaaBookKept
import Derived.Test.YtgfglbbfoadiaaaRefW2
import Derived.Test.YtgfglbbfoadiaaaBackWalk
namespace Go.Proofs.Ytgfglbbfoadiaaa
open Go.RowKit

/-- Both writers and the book. -/
structure WS (base : Nat) (w0 w : World) (B : Nat) (v : Value) (V : Nat) (u : Value) (K : Nat) (hs : List Held) (e : Int) (l : List Nat) : Prop where
  isW : IsW w B e v (if e = 0 then l else [])
  isV : IsV w V e u l
  book : IsB base w K hs
  vu : ∀ j, v.ownBlock = some j → u.ownBlock ≠ some j
  vb : ∀ j, v.ownBlock = some j → ¬ bfoot hs j
  ub : ∀ j, u.ownBlock = some j → ¬ bfoot hs j
  fB : base ≤ B
  fV : base ≤ V
  fv : ∀ j, v.ownBlock = some j → base ≤ j
  fu : ∀ j, u.ownBlock = some j → base ≤ j
  below : Below base w0 w
  size : base ≤ w.heap.size
section
variable {base : Nat} {w0 w w1 w2 : World} {B : Nat} {v v2 : Value} {V : Nat} {u u2 : Value} {K : Nat} {hs : List Held} {e e2 : Int} {l l2 m2 : List Nat}
theorem WS.quiet (h : WS base w0 w B v V u K hs e l) (q : Kept (fun _ => False) w w1) : WS base w0 w1 B v V u K hs e l :=
  ⟨h.isW.kept q (fun f => f) (fun _ _ f => f), h.isV.kept q (fun f => f) (fun _ _ f => f), h.book.kept q (fun _ f => f.elim) (fun _ f => f.elim), h.vu, h.vb, h.ub, h.fB, h.fV, h.fv, h.fu, h.below.trans (q.below h.size (fun _ f => f.elim)), Nat.le_trans h.size q.size⟩
theorem WS.BV (h : WS base w0 w B v V u K hs e l) : B ≠ V := fun q => by
  have a := h.isW.blk
  have b := h.isV.blk
  rw [q, b] at a
  simp at a
theorem WS.Bu (h : WS base w0 w B v V u K hs e l) : u.ownBlock ≠ some B := own_ne h.isW.blk h.isV.own (by decide)
theorem WS.Vv (h : WS base w0 w B v V u K hs e l) : v.ownBlock ≠ some V := own_ne h.isV.blk h.isW.own (by decide)
theorem WS.isV1 (h : WS base w0 w B v V u K hs e l) (p : Put w B v w1 e2 v2 m2) : IsV w1 V e u l :=
  h.isV.kept p.kept (fun q => by rcases q with q | q; exact h.BV q.symm; exact h.Vv q) (fun j hj q => by
    rcases q with q | q
    · exact h.Bu (q ▸ hj)
    · exact h.vu j q hj)
theorem WS.both (h : WS base w0 w B v V u K hs e l) (p : Put w B v w1 e2 v2 m2) (hm : m2 = if e2 = 0 then l2 else []) (q : PutV w1 V u w2 e2 u2 l2) : WS base w0 w2 B v2 V u2 K hs e2 l2 := by
  subst hm
  have v1 := h.isV1 p
  have s1 := p.kept.size
  have s2 := q.kept.size
  have Bu1 : u.ownBlock ≠ some B := h.Bu
  have Vv2 : v2.ownBlock ≠ some V := own_ne v1.blk p.isW.own (by decide)
  have ltu : ∀ j, u.ownBlock = some j → j < w.heap.size := fun j hj => (h.isV.own.lt j hj).2
  have ltv : ∀ j, v.ownBlock = some j → j < w.heap.size := fun j hj => (h.isW.own.lt j hj).2
  have ltv2 : ∀ j, v2.ownBlock = some j → j < w1.heap.size := fun j hj => (p.isW.own.lt j hj).2
  have b1 : IsB base w1 K hs := h.book.kept p.kept (fun j s => by
      rcases s with s | s
      · subst s; exact not_bookish h.isW.blk (by decide) (by decide)
      · obtain ⟨_, cs, hb⟩ := owns_block h.isW.own s
        exact not_bookish hb (by decide) (by decide)) (fun j s => by
      rcases s with s | s
      · subst s
        intro f
        obtain ⟨_, _, cs, hb⟩ := h.book.foot f
        rw [h.isW.blk] at hb
        simp at hb
      · exact h.vb j s)
  have bf : ∀ j, bfoot hs j → j < w.heap.size := fun j f => (h.book.foot f).2.1
  have b2 : IsB base w2 K hs := b1.kept q.kept (fun j s => by
      rcases s with s | s
      · subst s; exact not_bookish v1.blk (by decide) (by decide)
      · obtain ⟨_, cs, hb⟩ := owns_block v1.own s
        exact not_bookish hb (by decide) (by decide)) (fun j s => by
      rcases s with s | s
      · subst s
        intro f
        obtain ⟨_, _, cs, hb⟩ := b1.foot f
        rw [v1.blk] at hb
        simp at hb
      · exact h.ub j s)
  refine ⟨?_, q.isV, b2, fun j hj hu => ?_, fun j hj f => ?_, fun j hj f => ?_, h.fB, h.fV, fun j hj => ?_, fun j hj => ?_, (h.below.trans (p.kept.below h.size (fun j s => ?_))).trans (q.kept.below (by have := h.size; omega) (fun j s => ?_)), by have := h.size; omega⟩
  · refine p.isW.kept q.kept (fun s => ?_) (fun j hj s => ?_)
    · rcases s with s | s
      · exact h.BV s
      · exact Bu1 s
    · rcases s with s | s
      · exact Vv2 (s ▸ hj)
      · rcases p.near j hj with r | r
        · exact h.vu j r s
        · have := ltu j s; omega
  · rcases q.near j hu with r | r
    · rcases p.near j hj with t | t
      · exact h.vu j t r
      · have := ltu j r; omega
    · have := ltv2 j hj; omega
  · rcases p.near j hj with r | r
    · exact h.vb j r f
    · have := bf j f; omega
  · rcases q.near j hj with r | r
    · exact h.ub j r f
    · have := bf j f; omega
  · rcases p.near j hj with r | r
    · exact h.fv j r
    · have := h.size; omega
  · rcases q.near j hj with r | r
    · exact h.fu j r
    · have := h.size; omega
  · rcases s with s | s
    · have := h.fB; omega
    · exact h.fv j s
  · rcases s with s | s
    · have := h.fV; omega
    · exact h.fu j s
theorem WS.hold (h : WS base w0 w B v V u K hs e l) {p q : Option Addr} {n c d : Nat} {xs : List Value} (ho : w.ownsRow base 5 1 (.slice p n c) n xs) (x1 : ∀ j, (Value.slice p n c).ownBlock = some j → v.ownBlock ≠ some j ∧ u.ownBlock ≠ some j)
    (b2 : IsB base w2 K (hs ++ [⟨p, n, c, q, d⟩])) (k : Kept (fun j => bookish base w j ∨ (Value.slice p n c).ownBlock = some j) w w2) (nr : ∀ j, (Value.slice q (n + 70) d).ownBlock = some j → (Value.slice p n c).ownBlock = some j ∨ w.heap.size ≤ j) :
    WS base w0 w2 B v V u K (hs ++ [⟨p, n, c, q, d⟩]) e l := by
  have own5 : ∀ {cs : Array Value} {t : TypeId} {fr : Nat × Nat} {j : Nat}, w.heap[j]? = some (.cells cs t fr) → t ≠ 5 → (Value.slice p n c).ownBlock ≠ some j := fun hb ht => own_ne hb ho ht
  have ltv : ∀ j, v.ownBlock = some j → j < w.heap.size := fun j hj => (h.isW.own.lt j hj).2
  have ltu : ∀ j, u.ownBlock = some j → j < w.heap.size := fun j hj => (h.isV.own.lt j hj).2
  have nf : ∀ {j : Nat}, j < w.heap.size → ¬ bfoot hs j → (Value.slice p n c).ownBlock ≠ some j → ¬ bfoot (hs ++ [⟨p, n, c, q, d⟩]) j := fun {j} hj h1 h2 f => by
    obtain ⟨x, hx, f⟩ := f
    rcases List.mem_append.1 hx with hx | hx
    · exact h1 ⟨x, hx, f⟩
    · simp at hx
      subst hx
      rcases f with f | f
      · exact h2 f
      · rcases nr j f with r | r
        · exact h2 r
        · omega
  refine ⟨h.isW.kept k (fun s => ?_) (fun j hj s => ?_), h.isV.kept k (fun s => ?_) (fun j hj s => ?_), b2, h.vu, fun j hj => nf (ltv j hj) (h.vb j hj) (fun q => (x1 j q).1 hj), fun j hj => nf (ltu j hj) (h.ub j hj) (fun q => (x1 j q).2 hj), h.fB, h.fV, h.fv, h.fu, h.below.trans (k.below h.size (fun j s => ?_)), Nat.le_trans h.size k.size⟩
  · rcases s with s | s
    · exact not_bookish h.isW.blk (by decide) (by decide) s
    · exact own5 h.isW.blk (by decide) s
  · rcases s with s | s
    · obtain ⟨_, cs, hb⟩ := owns_block h.isW.own hj
      exact not_bookish hb (by decide) (by decide) s
    · exact (x1 j s).1 hj
  · rcases s with s | s
    · exact not_bookish h.isV.blk (by decide) (by decide) s
    · exact own5 h.isV.blk (by decide) s
  · rcases s with s | s
    · obtain ⟨_, cs, hb⟩ := owns_block h.isV.own hj
      exact not_bookish hb (by decide) (by decide) s
    · exact (x1 j s).2 hj
  · rcases s with s | s
    · exact s.1
    · exact (owns_block ho s).1
end
/-- What the law's put leaves. -/
def PutRes (base : Nat) (w0 w : World) (B V K : Nat) (hs : List Held) (l : List Nat) (wt : Nat) : Prop :=
  ∃ v2 u2 hs2 e2 l2, WS base w0 w B v2 V u2 K hs2 e2 l2 ∧ l2.length ≤ l.length + 2 * wt ∧ hs2.length ≤ hs.length + 2
end Go.Proofs.Ytgfglbbfoadiaaa
