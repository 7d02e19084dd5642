import Derived.Test.YtojfnehdanhgiaaBase
namespace Go.Proofs.Ytojfnehdanhgiaa
open Go.RowKit

/-- A datagram. -/
structure Pk where
  fk : Int
  fi : Int
  tk : Int
  ti : Int
  data : List Nat
  lost : Bool
/-- A datagram where it lies: with the slice that holds its bytes. -/
structure Ent where
  p : Pk
  a : Option Addr
  len : Nat
  cap : Nat
def Ent.cells (e : Ent) : List Value := [.int .i64 e.p.fk, .int .i64 e.p.fi, .int .i64 e.p.tk, .int .i64 e.p.ti, .slice e.a e.len e.cap, .bool e.p.lost]
def Ent.val (e : Ent) : Value := .agg #[.int .i64 e.p.fk, .int .i64 e.p.fi, .int .i64 e.p.tk, .int .i64 e.p.ti, .slice e.a e.len e.cap, .bool e.p.lost]
def rcells (R : List Ent) : List Value := R.flatMap Ent.cells
theorem rcells_append (l m : List Ent) : rcells (l ++ m) = rcells l ++ rcells m := by simp [rcells]
theorem rcells_cons (e : Ent) (l : List Ent) : rcells (e :: l) = e.cells ++ rcells l := by simp [rcells]
theorem rcells_one' (e : Ent) : rcells [e] = e.cells := by simp [rcells]
theorem ecells_length (e : Ent) : e.cells.length = 6 := rfl
theorem rcells_length (l : List Ent) : (rcells l).length = l.length * 6 := by
  induction l with
  | nil => rfl
  | cons t r ih => rw [rcells_cons, List.length_append, ih, ecells_length, List.length_cons]; omega
theorem rcells_one (l : List Ent) : ∀ u ∈ rcells l, u.oneCell' = true := fun u hu => by
  obtain ⟨t, _, h⟩ := List.mem_flatMap.1 hu
  simp [Ent.cells] at h
  rcases h with rfl | rfl | rfl | rfl | rfl | rfl <;> rfl
theorem rcells_get (l : List Ent) : ∀ i (h : i < l.length) j, j < 6 → (rcells l)[i * 6 + j]? = (l[i].cells)[j]? := by
  induction l with
  | nil => intro i h; simp at h
  | cons t r ih =>
    intro i h j hj
    rw [rcells_cons]
    cases i with
    | zero => rw [List.getElem?_append_left (by rw [ecells_length]; omega)]; simp
    | succ i =>
      rw [List.getElem?_append_right (by rw [ecells_length]; omega), ecells_length, show (i + 1) * 6 + j - 6 = i * 6 + j by omega, ih i (by simpa using h) j hj]
      rfl
theorem rcells_take (l : List Ent) (n : Nat) : (rcells l).take (n * 6) = rcells (l.take n) := by
  rw [show rcells l = rcells (l.take n) ++ rcells (l.drop n) by rw [← rcells_append, List.take_append_drop]]
  by_cases h : n ≤ l.length
  · rw [List.take_append_of_le_length (by rw [rcells_length, List.length_take]; omega), List.take_of_length_le (by rw [rcells_length, List.length_take]; omega)]
  · rw [List.drop_of_length_le (by omega)]
    simp only [rcells, List.flatMap_nil, List.append_nil]
    exact List.take_of_length_le (by have := rcells_length (l.take n); unfold rcells at this; rw [this, List.length_take]; omega)
/-- Its bytes lie in a row of their own. -/
structure Good (base : Nat) (w : World) (e : Ent) : Prop where
  own : w.ownsRow base 5 1 (.slice e.a e.len e.cap) e.len (cellsOf e.p.data)
  bytes : ∀ c ∈ e.p.data, c < 256
  short : e.len ≤ 66000
theorem Good.length {base : Nat} {w : World} {e : Ent} (h : Good base w e) : e.p.data.length = e.len := by have := h.own.1; rw [cellsOf_length] at this; omega
theorem Good.reads {base : Nat} {w : World} {e : Ent} (h : Good base w e) : Reads w e.a e.len e.cap e.p.data := by
  obtain ⟨a, cap, q, r, _⟩ := owns_reads h.own h.bytes
  simp at q
  obtain ⟨rfl, rfl⟩ := q
  exact r
/-- That block holds no bytes. -/
def NotData (w : World) (k : Nat) : Prop := ∀ cs f, w.heap[k]? ≠ some (.cells cs 5 f)
theorem Good.kept {S : Nat → Prop} {base : Nat} {w w' : World} {e : Ent} (h : Good base w e) (K : Kept S w w') (hn : ∀ k, k < w.heap.size → S k → NotData w k) : Good base w' e := by
  refine ⟨K.owns h.own fun k hk q => ?_, h.bytes, h.short⟩
  rcases h.own.2 with ⟨e0, _⟩ | ⟨g, cap, cur, e0, _, hg, _⟩
  · rw [e0] at hk; simp [Value.ownBlock] at hk
  · rw [e0] at hk
    simp [Value.ownBlock] at hk
    subst hk
    exact hn g (block_lt hg) q _ _ hg
theorem Good.kept' {S : Nat → Prop} {base : Nat} {w w' : World} {e : Ent} (h : Good base w e) (K : Kept S w w') (hn : ∀ k, (Value.slice e.a e.len e.cap).ownBlock = some k → ¬ S k) : Good base w' e := ⟨K.owns h.own hn, h.bytes, h.short⟩
theorem owns_mono {w : World} {b b' : Nat} {e : TypeId} {s : Nat} {v : Value} {n : Nat} {xs : List Value} (h : w.ownsRow b e s v n xs) (hb : b' ≤ b) : w.ownsRow b' e s v n xs := by
  refine ⟨h.1, ?_⟩
  rcases h.2 with q | ⟨g, cap, cur, e0, h1, rest⟩
  · exact .inl q
  · exact .inr ⟨g, cap, cur, e0, Nat.le_trans hb h1, rest⟩
theorem Good.mono {b b' : Nat} {w : World} {e : Ent} (h : Good b w e) (hb : b' ≤ b) : Good b' w e := ⟨owns_mono h.own hb, h.bytes, h.short⟩
theorem Good.kept0 {base : Nat} {w w' : World} {e : Ent} (h : Good base w e) (K : Kept (fun _ => False) w w') : Good base w' e := h.kept K fun _ _ q => q.elim
theorem kept_below {w w' : World} (B : Below w.heap.size w w') : Kept (fun _ => False) w w' := ⟨B.os, B.tape, B.output, B.size, fun k hk _ => B.block k hk⟩
theorem below_kept {w w' : World} (K : Kept (fun _ => False) w w') : Below w.heap.size w w' := ⟨K.os, K.tape, K.output, K.size, fun k hk => K.block k hk (fun q => q)⟩
def blockOf (a : Option Addr) : Option Nat := a.map (·.block)
theorem blockOf_own (a : Option Addr) (n c : Nat) : (Value.slice a n c).ownBlock = blockOf a := by cases a <;> rfl
/-- A list of datagrams. -/
structure IsL (base : Nat) (w : World) (q : Option Addr) (len cap : Nat) (R : List Ent) : Prop where
  own : w.ownsRow base 39 6 (.slice q len cap) len (rcells R)
  good : ∀ e ∈ R, Good base w e
theorem IsL.length {base : Nat} {w : World} {q : Option Addr} {len cap : Nat} {R : List Ent} (h : IsL base w q len cap R) : R.length = len := by have := h.own.1; rw [rcells_length] at this; omega
theorem own_lt {w : World} {base : Nat} {e : TypeId} {s : Nat} {a : Option Addr} {n c : Nat} {xs : List Value} (h : w.ownsRow base e s (.slice a n c) n xs) : ∀ k, blockOf a = some k → base ≤ k ∧ k < w.heap.size := fun k hk => h.lt k (by rw [blockOf_own]; exact hk)
theorem own_type {w : World} {base : Nat} {e : TypeId} {s : Nat} {a : Option Addr} {n c : Nat} {xs : List Value} (h : w.ownsRow base e s (.slice a n c) n xs) : ∀ k, blockOf a = some k → ∃ cs, w.heap[k]? = some (.cells cs e (0, 0)) := fun k hk => by
  rcases h.2 with ⟨e0, _⟩ | ⟨g, cap, cur, e0, _, hg, _⟩
  · simp at e0; rw [e0.1] at hk; simp [blockOf] at hk
  · simp at e0; rw [e0.1] at hk; simp [blockOf] at hk; subst hk; exact ⟨_, hg⟩
theorem own_room {w : World} {base : Nat} {e : TypeId} {s : Nat} {a : Option Addr} {n c : Nat} {xs : List Value} (h : w.ownsRow base e s (.slice a n c) n xs) : n ≤ c ∧ c ≤ maxLen := by
  rcases h.2 with ⟨e0, e1⟩ | ⟨g, cap, cur, e0, _, _, h1, h2, _⟩
  · simp at e0; obtain ⟨_, rfl, rfl⟩ := e0; exact ⟨Nat.le_refl _, by unfold maxLen; omega⟩
  · simp at e0; obtain ⟨_, rfl⟩ := e0; exact ⟨h1, h2⟩
theorem IsL.notdata {base : Nat} {w : World} {q : Option Addr} {len cap : Nat} {R : List Ent} (h : IsL base w q len cap R) : ∀ k, blockOf q = some k → NotData w k := fun k hk cs f e => by
  obtain ⟨cs', hc⟩ := own_type h.own k hk
  rw [hc] at e
  simp at e
/-- The cells of one of them. -/
theorem IsL.cells {base : Nat} {w : World} {q : Option Addr} {len cap : Nat} {R : List Ent} (h : IsL base w q len cap R) (i : Nat) (hi : i < len) : ∃ g, q = some ⟨g, 0, none⟩ ∧ ∃ (hl : i < R.length),
    w.cell? ⟨g, i * 6, none⟩ = some (.int .i64 R[i].p.fk) ∧ w.cell? ⟨g, i * 6 + 1, none⟩ = some (.int .i64 R[i].p.fi) ∧ w.cell? ⟨g, i * 6 + 2, none⟩ = some (.int .i64 R[i].p.tk) ∧ w.cell? ⟨g, i * 6 + 3, none⟩ = some (.int .i64 R[i].p.ti) ∧
    w.cell? ⟨g, i * 6 + 4, none⟩ = some (.slice R[i].a R[i].len R[i].cap) ∧ w.cell? ⟨g, i * 6 + 5, none⟩ = some (.bool R[i].p.lost) := by
  have hl : i < R.length := by rw [h.length]; exact hi
  rcases h.own.2 with ⟨e0, e1⟩ | ⟨g, cap', cur, e0, _, hg, hn, hm, hs, ht⟩
  · omega
  · simp at e0
    obtain ⟨rfl, rfl⟩ := e0
    have key : ∀ j v, j < 6 → (R[i].cells)[j]? = some v → w.cell? ⟨g, i * 6 + j, none⟩ = some v := fun j v hj hv => by
      rw [cell_of_row w g _ cur 39 (0, 0) hg]
      have e := rcells_get R i hl j hj
      rw [hv, ← ht, List.getElem?_take_of_lt (by omega)] at e
      simpa using e
    refine ⟨g, rfl, hl, key 0 _ (by omega) rfl, key 1 _ (by omega) rfl, key 2 _ (by omega) rfl, key 3 _ (by omega) rfl, key 4 _ (by omega) rfl, key 5 _ (by omega) rfl⟩
theorem IsL.kept {S : Nat → Prop} {base : Nat} {w w' : World} {q : Option Addr} {len cap : Nat} {R : List Ent} (h : IsL base w q len cap R) (K : Kept S w w') (hq : ∀ k, blockOf q = some k → ¬ S k) (hn : ∀ k, k < w.heap.size → S k → NotData w k) : IsL base w' q len cap R :=
  ⟨K.owns h.own fun k hk => hq k (by rw [← blockOf_own]; exact hk), fun e he => (h.good e he).kept K hn⟩
theorem IsL.kept0 {base : Nat} {w w' : World} {q : Option Addr} {len cap : Nat} {R : List Ent} (h : IsL base w q len cap R) (K : Kept (fun _ => False) w w') : IsL base w' q len cap R := h.kept K (fun _ _ q => q) (fun _ _ q => q.elim)
/-- A network: its block, its list. -/
structure IsNet (ty base : Nat) (w : World) (C : Nat) (q : Option Addr) (len cap : Nat) (R : List Ent) : Prop where
  blk : w.heap[C]? = some (.cells #[.slice q len cap] ty (0, 0))
  list : IsL base w q len cap R
  low : base ≤ C
  t5 : ty ≠ 5
  t39 : ty ≠ 39
theorem IsNet.lt {ty base : Nat} {w : World} {C : Nat} {q : Option Addr} {len cap : Nat} {R : List Ent} (h : IsNet ty base w C q len cap R) : C < w.heap.size := block_lt h.blk
theorem IsNet.cell {ty base : Nat} {w : World} {C : Nat} {q : Option Addr} {len cap : Nat} {R : List Ent} (h : IsNet ty base w C q len cap R) : w.cell? ⟨C, 0, none⟩ = some (.slice q len cap) := cell_blk h.blk 0 rfl
theorem IsNet.soft {ty base : Nat} {w : World} {C : Nat} {q : Option Addr} {len cap : Nat} {R : List Ent} (h : IsNet ty base w C q len cap R) : w.frozen? ⟨C, 0, none⟩ = false := soft_blk h.blk 0
theorem IsNet.notdata {ty base : Nat} {w : World} {C : Nat} {q : Option Addr} {len cap : Nat} {R : List Ent} (h : IsNet ty base w C q len cap R) : NotData w C := fun cs f e => by
  rw [h.blk] at e
  simp at e
  exact h.t5 e.2.1
theorem IsNet.apart {ty base : Nat} {w : World} {C : Nat} {q : Option Addr} {len cap : Nat} {R : List Ent} (h : IsNet ty base w C q len cap R) : blockOf q ≠ some C := fun e => by
  obtain ⟨cs, hc⟩ := own_type h.list.own C e
  rw [h.blk] at hc
  simp at hc
  exact h.t39 hc.2
theorem IsNet.kept {S : Nat → Prop} {ty base : Nat} {w w' : World} {C : Nat} {q : Option Addr} {len cap : Nat} {R : List Ent} (h : IsNet ty base w C q len cap R) (K : Kept S w w') (hC : ¬ S C) (hq : ∀ k, blockOf q = some k → ¬ S k) (hn : ∀ k, k < w.heap.size → S k → NotData w k) : IsNet ty base w' C q len cap R :=
  ⟨K.get h.blk hC, h.list.kept K hq hn, h.low, h.t5, h.t39⟩
theorem IsNet.kept0 {ty base : Nat} {w w' : World} {C : Nat} {q : Option Addr} {len cap : Nat} {R : List Ent} (h : IsNet ty base w C q len cap R) (K : Kept (fun _ => False) w w') : IsNet ty base w' C q len cap R := h.kept K (fun q => q) (fun _ _ q => q) (fun _ _ q => q.elim)
theorem IsNet.by {ty base : Nat} {w w' : World} {C : Nat} {q : Option Addr} {len cap : Nat} {R : List Ent} (h : IsNet ty base w C q len cap R) (B : Below w.heap.size w w') : IsNet ty base w' C q len cap R := h.kept0 (kept_below B)
theorem IsL.by {base : Nat} {w w' : World} {q : Option Addr} {len cap : Nat} {R : List Ent} (h : IsL base w q len cap R) (B : Below w.heap.size w w') : IsL base w' q len cap R := h.kept0 (kept_below B)
theorem Good.by {base : Nat} {w w' : World} {e : Ent} (h : Good base w e) (B : Below w.heap.size w w') : Good base w' e := h.kept0 (kept_below B)
theorem Reads.by {w w' : World} {a : Option Addr} {len cap : Nat} {l : List Nat} (r : Reads w a len cap l) (B : Below w.heap.size w w') : Reads w' a len cap l := r.kept' (kept_below B) (fun _ _ q => q)
/-- What changed: the network's own block and its list's. -/
structure Moved (w w' : World) (C : Nat) (q q' : Option Addr) : Prop where
  kept : Kept (fun k => k = C ∨ blockOf q = some k) w w'
  near : ∀ k, blockOf q' = some k → blockOf q = some k ∨ w.heap.size ≤ k
theorem Moved.of_below {w w' : World} (B : Below w.heap.size w w') (C : Nat) (q : Option Addr) : Moved w w' C q q :=
  ⟨⟨B.os, B.tape, B.output, B.size, fun k hk _ => B.block k hk⟩, fun _ h => .inl h⟩
theorem Moved.trans {a b c : World} {C : Nat} {q q' q'' : Option Addr} (h : Moved a b C q q') (k : Moved b c C q' q'') : Moved a c C q q'' := by
  refine ⟨h.kept.trans k.kept fun j hj hs => ?_, fun j hj => ?_⟩
  · rcases hs with e | e
    · exact .inl e
    · rcases h.near j e with e | e
      · exact .inr e
      · omega
  · rcases k.near j hj with e | e
    · exact h.near j e
    · exact .inr (Nat.le_trans h.kept.size e)
/-- Another one's list and bytes are left as they were. -/
theorem Moved.net {w w' : World} {C : Nat} {q q' : Option Addr} {ty base : Nat} {len cap : Nat} {R : List Ent} (h : Moved w w' C q q') (n : IsNet ty base w C q len cap R)
    {ty2 base2 C2 : Nat} {q2 : Option Addr} {len2 cap2 : Nat} {R2 : List Ent} (n2 : IsNet ty2 base2 w C2 q2 len2 cap2 R2) (hC : C2 ≠ C) (hq : ∀ k, blockOf q2 = some k → blockOf q ≠ some k) : IsNet ty2 base2 w' C2 q2 len2 cap2 R2 := by
  refine n2.kept h.kept (fun e => ?_) (fun k hk e => ?_) (fun k _ e => ?_)
  · rcases e with e | e
    · exact hC e
    · obtain ⟨cs, hc⟩ := own_type n.list.own C2 e
      rw [n2.blk] at hc
      simp at hc
      exact n2.t39 hc.2
  · rcases e with e | e
    · subst e
      obtain ⟨cs, hc⟩ := own_type n2.list.own k hk
      rw [n.blk] at hc
      simp at hc
      exact n.t39 hc.2
    · exact hq k hk e
  · rcases e with e | e
    · subst e; exact n.notdata
    · exact n.list.notdata k e
theorem Moved.list {w w' : World} {C : Nat} {q q' : Option Addr} {ty base : Nat} {len cap : Nat} {R : List Ent} (h : Moved w w' C q q') (n : IsNet ty base w C q len cap R)
    {base2 : Nat} {q2 : Option Addr} {len2 cap2 : Nat} {R2 : List Ent} (n2 : IsL base2 w q2 len2 cap2 R2) (hq : ∀ k, blockOf q2 = some k → blockOf q ≠ some k) : IsL base2 w' q2 len2 cap2 R2 := by
  refine n2.kept h.kept (fun k hk e => ?_) (fun k _ e => ?_)
  · rcases e with e | e
    · subst e
      obtain ⟨cs, hc⟩ := own_type n2.own k hk
      rw [n.blk] at hc
      simp at hc
      exact n.t39 hc.2
    · exact hq k hk e
  · rcases e with e | e
    · subst e; exact n.notdata
    · exact n.list.notdata k e
theorem Moved.good {w w' : World} {C : Nat} {q q' : Option Addr} {ty base : Nat} {len cap : Nat} {R : List Ent} (h : Moved w w' C q q') (n : IsNet ty base w C q len cap R) {base2 : Nat} {e : Ent} (g : Good base2 w e) : Good base2 w' e :=
  g.kept h.kept fun k _ e => by
    rcases e with e | e
    · subst e; exact n.notdata
    · exact n.list.notdata k e
theorem Moved.low {w w' : World} {C : Nat} {q q' : Option Addr} {ty base : Nat} {len cap : Nat} {R : List Ent} (h : Moved w w' C q q') (n : IsNet ty base w C q len cap R) (hb : base ≤ w.heap.size) : Below base w w' :=
  h.kept.below hb fun k e => by
    rcases e with e | e
    · subst e; exact n.low
    · exact (own_lt n.list.own k e).1
end Go.Proofs.Ytojfnehdanhgiaa
