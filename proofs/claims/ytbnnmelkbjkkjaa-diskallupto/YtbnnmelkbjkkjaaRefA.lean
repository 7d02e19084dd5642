import Derived.Test.YtbnnmelkbjkkjaaWorldsMathJ
namespace Go.Proofs.Ytbnnmelkbjkkjaa
open Go.RowKit

/-- A loose act of the document's disk. -/
structure RA where
  x : Option (List Nat)
  a : Option Addr
  n : Nat
  c : Nat
def RA.w (e : RA) : Bool := e.x.isNone
def RA.cells (e : RA) : List Value := [.bool e.w, .slice e.a e.n e.c]
def rcells (L : List RA) : List Value := L.flatMap RA.cells
theorem rcells_append (l m : List RA) : rcells (l ++ m) = rcells l ++ rcells m := by simp [rcells]
theorem rcells_cons (e : RA) (l : List RA) : rcells (e :: l) = e.cells ++ rcells l := by simp [rcells]
theorem rcells_one' (e : RA) : rcells [e] = e.cells := by simp [rcells]
theorem racells_length (e : RA) : e.cells.length = 2 := rfl
theorem rcells_length (l : List RA) : (rcells l).length = l.length * 2 := by
  induction l with
  | nil => rfl
  | cons t r ih => rw [rcells_cons, List.length_append, ih, racells_length, List.length_cons]; omega
theorem rcells_ones (l : List RA) : ∀ u ∈ rcells l, u.oneCell' = true := fun u hu => by
  obtain ⟨t, _, h⟩ := List.mem_flatMap.1 hu
  simp [RA.cells] at h
  rcases h with rfl | rfl <;> rfl
theorem rcells_get (l : List RA) : ∀ i (h : i < l.length) j, j < 2 → (rcells l)[i * 2 + j]? = (l[i].cells)[j]? := by
  induction l with
  | nil => intro i h; simp at h
  | cons t r ih =>
    intro i h j hj
    rw [rcells_cons]
    cases i with
    | zero => rw [List.getElem?_append_left (by rw [racells_length]; omega)]; simp
    | succ i =>
      rw [List.getElem?_append_right (by rw [racells_length]; omega), racells_length, show (i + 1) * 2 + j - 2 = i * 2 + j by omega, ih i (by simpa using h) j hj]
      rfl
structure RA.Good (w : World) (e : RA) : Prop where
  wiped : e.x = none → e.a = none ∧ e.n = 0 ∧ e.c = 0
  bytes : ∀ l, e.x = some l → 0 < l.length ∧ Reads w e.a e.n e.c l
theorem RA.Good.off {S : Nat → Prop} {w w' : World} {e : RA} (h : e.Good w) (K : Kept S w w') (hn : ∀ k, blockOf e.a = some k → ¬ S k) : e.Good w' := ⟨h.wiped, fun l hl => ⟨(h.bytes l hl).1, (h.bytes l hl).2.off K hn⟩⟩
theorem RA.Good.lt {w : World} {e : RA} (h : e.Good w) {k : Nat} (hk : blockOf e.a = some k) : k < w.heap.size := by
  cases hx : e.x with
  | none => rw [(h.wiped hx).1] at hk; simp [blockOf] at hk
  | some l =>
    obtain ⟨h0, r⟩ := h.bytes l hx
    obtain ⟨b, off, e1, hc⟩ := r.cells (by rw [← r.length]; exact h0)
    rw [e1] at hk
    simp [blockOf] at hk
    subst hk
    exact World.block_lt_of_cell? w ⟨b, off + 0, none⟩ (hc 0 (by rw [← r.length]; exact h0))
/-- A list of loose acts that can be read. -/
structure RRd (w : World) (la : Option Addr) (ln lc : Nat) (L : List RA) : Prop where
  length : L.length = ln
  room : ln ≤ lc
  small : lc ≤ maxLen
  cells : 0 < ln → ∃ b off, la = some ⟨b, off, none⟩ ∧ ∀ i e, L[i]? = some e → w.cell? ⟨b, off + i * 2, none⟩ = some (.bool e.w) ∧ w.cell? ⟨b, off + i * 2 + 1, none⟩ = some (.slice e.a e.n e.c)
theorem RRd.off {S : Nat → Prop} {w w' : World} {la : Option Addr} {ln lc : Nat} {L : List RA} (h : RRd w la ln lc L) (K : Kept S w w') (hn : ∀ k, blockOf la = some k → ¬ S k) : RRd w' la ln lc L := by
  refine ⟨h.length, h.room, h.small, fun h0 => ?_⟩
  obtain ⟨b, off, e, hc⟩ := h.cells h0
  have hb : ¬ S b := hn b (by rw [e]; rfl)
  exact ⟨b, off, e, fun i x hx => ⟨K.cell (hc i x hx).1 hb, K.cell (hc i x hx).2 hb⟩⟩
theorem owns_rrd {w : World} {base : Nat} {la : Option Addr} {ln lc : Nat} {L : List RA} (h : w.ownsRow base 95 2 (.slice la ln lc) ln (rcells L)) : RRd w la ln lc L := by
  obtain ⟨r1, r2⟩ := own_room h
  have hl : L.length = ln := by have := h.1; rw [rcells_length] at this; omega
  refine ⟨hl, r1, r2, fun h0 => ?_⟩
  rcases h.2 with ⟨e0, e1⟩ | ⟨g, cap', cur, e0, _, hg, hn, hm, hs, ht⟩
  · omega
  · simp at e0
    obtain ⟨rfl, rfl⟩ := e0
    refine ⟨g, 0, rfl, fun i e he => ?_⟩
    obtain ⟨hlt, rfl⟩ := List.getElem?_eq_some_iff.1 he
    have key : ∀ j v, j < 2 → (L[i].cells)[j]? = some v → w.cell? ⟨g, 0 + i * 2 + j, none⟩ = some v := fun j v hj hv => by
      rw [Nat.zero_add, cell_of_row w g _ cur 95 (0, 0) hg]
      have e := rcells_get L i hlt j hj
      rw [hv, ← ht, List.getElem?_take_of_lt (by omega)] at e
      simpa using e
    exact ⟨key 0 _ (by omega) rfl, key 1 _ (by omega) rfl⟩
/-- A slot of the document's disk. -/
structure RSl where
  a : Option Addr
  n : Nat
  c : Nat
  l : List Nat
  la : Option Addr
  ln : Nat
  lc : Nat
  L : List RA
def RSl.Uses (s : RSl) (k : Nat) : Prop := blockOf s.a = some k ∨ blockOf s.la = some k ∨ ∃ e ∈ s.L, blockOf e.a = some k
def RSl.xs (s : RSl) : List (Option (List Nat)) := s.L.map RA.x
structure IsRS (base : Nat) (w : World) (s : RSl) : Prop where
  own : w.ownsRow base 5 1 (.slice s.a s.n s.c) s.n (cellsOf s.l)
  bytes : ∀ c ∈ s.l, c < 256
  lown : w.ownsRow base 95 2 (.slice s.la s.ln s.lc) s.ln (rcells s.L)
  good : ∀ e ∈ s.L, e.Good w
  far : ∀ k, blockOf s.la = some k → ∀ e ∈ s.L, ¬ blockOf e.a = some k
theorem IsRS.off {S : Nat → Prop} {base : Nat} {w w' : World} {s : RSl} (h : IsRS base w s) (K : Kept S w w') (hn : ∀ k, s.Uses k → ¬ S k) : IsRS base w' s :=
  ⟨K.owns h.own (fun k hk => hn k (.inl (by rw [← hk]; exact (blockOf_own ..).symm))), h.bytes, K.owns h.lown (fun k hk => hn k (.inr (.inl (by rw [← hk]; exact (blockOf_own ..).symm)))), fun e he => (h.good e he).off K (fun k hk => hn k (.inr (.inr ⟨e, he, hk⟩))), h.far⟩
theorem IsRS.lt {base : Nat} {w : World} {s : RSl} (h : IsRS base w s) {k : Nat} (hk : s.Uses k) : k < w.heap.size := by
  rcases hk with z | z | ⟨e, he, z⟩
  · exact (own_lt h.own k z).2
  · exact (own_lt h.lown k z).2
  · exact (h.good e he).lt z
theorem IsRS.ne {base : Nat} {w : World} {s : RSl} (h : IsRS base w s) : ∀ k, blockOf s.a = some k → blockOf s.la ≠ some k := fun k h1 h2 => by
  obtain ⟨c1, e1⟩ := own_type h.own k h1
  obtain ⟨c2, e2⟩ := own_type h.lown k h2
  rw [e1] at e2
  simp at e2
theorem IsRS.mono {b b' : Nat} {w : World} {s : RSl} (h : IsRS b w s) (hb : b' ≤ b) : IsRS b' w s := ⟨owns_mono h.own hb, h.bytes, owns_mono h.lown hb, h.good, h.far⟩
/-- The document's disk. -/
structure RK where
  s0 : RSl
  s1 : RSl
  cur : Nat
  acts : Nat
  named : Int
  done : Bool
  dead : Bool
def RK.cells (r : RK) : Array Value := #[.slice r.s0.a r.s0.n r.s0.c, .slice r.s1.a r.s1.n r.s1.c, .slice r.s0.la r.s0.ln r.s0.lc, .slice r.s1.la r.s1.ln r.s1.lc, .int .i64 (r.cur : Int), .int .i64 (r.acts : Int), .int .i64 r.named, .bool r.done, .bool r.dead]
def RK.ab (r : RK) : AB := ⟨r.s0.l, r.s0.xs, r.s1.l, r.s1.xs, r.cur, r.acts, r.dead, r.named, r.done⟩
structure IsR (base : Nat) (w : World) (B : Nat) (r : RK) : Prop where
  blk : w.heap[B]? = some (.cells r.cells 82 (0, 0))
  low : base ≤ B
  z0 : IsRS base w r.s0
  z1 : IsRS base w r.s1
  u0 : ¬ r.s0.Uses B
  u1 : ¬ r.s1.Uses B
  l01 : ∀ k, blockOf r.s0.la = some k → ¬ r.s1.Uses k
  l10 : ∀ k, blockOf r.s1.la = some k → ¬ r.s0.Uses k
  two : r.cur < 2
def RK.Uses (r : RK) (B k : Nat) : Prop := k = B ∨ r.s0.Uses k ∨ r.s1.Uses k
def RK.Foot (r : RK) (B k : Nat) : Prop := k = B ∨ blockOf r.s0.la = some k ∨ blockOf r.s1.la = some k
theorem RK.Foot.uses {r : RK} {B k : Nat} (h : r.Foot B k) : r.Uses B k := by
  rcases h with z | z | z
  · exact .inl z
  · exact .inr (.inl (.inr (.inl z)))
  · exact .inr (.inr (.inr (.inl z)))
theorem IsR.lt {base : Nat} {w : World} {B : Nat} {r : RK} (h : IsR base w B r) {k : Nat} (hk : r.Uses B k) : k < w.heap.size := by
  rcases hk with z | z | z
  · rw [z]; exact block_lt h.blk
  · exact h.z0.lt z
  · exact h.z1.lt z
theorem IsR.foot {base : Nat} {w : World} {B : Nat} {r : RK} (h : IsR base w B r) {k : Nat} (hk : r.Foot B k) : base ≤ k := by
  rcases hk with z | z | z
  · rw [z]; exact h.low
  · exact (own_lt h.z0.lown k z).1
  · exact (own_lt h.z1.lown k z).1
theorem IsR.off {S : Nat → Prop} {base : Nat} {w w' : World} {B : Nat} {r : RK} (h : IsR base w B r) (K : Kept S w w') (hn : ∀ k, r.Uses B k → ¬ S k) : IsR base w' B r :=
  ⟨K.get h.blk (hn B (.inl rfl)), h.low, h.z0.off K (fun k hk => hn k (.inr (.inl hk))), h.z1.off K (fun k hk => hn k (.inr (.inr hk))), h.u0, h.u1, h.l01, h.l10, h.two⟩
theorem IsR.kept0 {base : Nat} {w w' : World} {B : Nat} {r : RK} (h : IsR base w B r) (K : Kept (fun _ => False) w w') : IsR base w' B r := h.off K (fun _ _ z => z)
theorem IsR.mono {b b' : Nat} {w : World} {B : Nat} {r : RK} (h : IsR b w B r) (hb : b' ≤ b) : IsR b' w B r := ⟨h.blk, Nat.le_trans hb h.low, h.z0.mono hb, h.z1.mono hb, h.u0, h.u1, h.l01, h.l10, h.two⟩
/-- What a call moved: the disk's own blocks alone. -/
structure RM (w w' : World) (B : Nat) (r r' : RK) : Prop where
  kept : Kept (r.Foot B) w w'
  near : ∀ k, r'.Uses B k → r.Uses B k ∨ w.heap.size ≤ k
  foot : ∀ k, r'.Foot B k → r.Foot B k ∨ w.heap.size ≤ k
theorem RM.of_kept {w w' : World} (K : Kept (fun _ => False) w w') (B : Nat) (r : RK) : RM w w' B r r := ⟨K.mono (fun _ _ z => z.elim), fun _ h => .inl h, fun _ h => .inl h⟩
theorem RM.trans {w1 w2 w3 : World} {B : Nat} {d1 d2 d3 : RK} (h : RM w1 w2 B d1 d2) (k : RM w2 w3 B d2 d3) : RM w1 w3 B d1 d3 := by
  have hs := h.kept.size
  refine ⟨h.kept.trans k.kept (fun j hj z => ?_), fun j hj => ?_, fun j hj => ?_⟩
  · rcases h.foot j z with q | q
    · exact q
    · omega
  · rcases k.near j hj with q | q
    · exact h.near j q
    · exact .inr (by omega)
  · rcases k.foot j hj with q | q
    · exact h.foot j q
    · exact .inr (by omega)
theorem RM.kept0 {w0 w w' : World} {base B : Nat} {d d' : RK} (m : RM w w' B d d') (h : IsR base w B d) (hb : w0.heap.size ≤ base) (K : Kept (fun _ => False) w0 w) : Kept (fun _ => False) w0 w' :=
  K.trans m.kept (fun k hk z => by have := h.foot z; omega)
theorem IsR.cell {base : Nat} {w : World} {B : Nat} {d : RK} (h : IsR base w B d) (j : Nat) {v : Value} (hv : d.cells[j]? = some v) : w.cell? ⟨B, j, none⟩ = some v := cell_blk h.blk j hv
theorem IsR.soft {base : Nat} {w : World} {B : Nat} {d : RK} (h : IsR base w B d) (j : Nat) : w.frozen? ⟨B, j, none⟩ = false := soft_blk h.blk j
/-- A field beside the slots is stored. -/
theorem IsR.put {base : Nat} {w : World} {B : Nat} {d d' : RK} (h : IsR base w B d) (j : Nat) (v : Value) (h0 : d'.s0 = d.s0) (h1 : d'.s1 = d.s1) (hc : d.cells.setIfInBounds j v = d'.cells) (ht : d'.cur < 2) : IsR base (w.setCell ⟨B, j, none⟩ v) B d' ∧ RM w (w.setCell ⟨B, j, none⟩ v) B d d' := by
  have K : Kept (fun k => k = B) w (w.setCell ⟨B, j, none⟩ v) := (Kept.refl (fun k => k = B) w).setCell (p := ⟨B, j, none⟩) (fun _ => rfl) _
  refine ⟨⟨by rw [← hc]; exact set_heap h.blk j v, h.low, by rw [h0]; exact h.z0.off K (fun k hk z => h.u0 (by rw [← z]; exact hk)), by rw [h1]; exact h.z1.off K (fun k hk z => h.u1 (by rw [← z]; exact hk)), by rw [h0]; exact h.u0, by rw [h1]; exact h.u1, by rw [h0, h1]; exact h.l01, by rw [h0, h1]; exact h.l10, ht⟩, K.mono (fun k _ z => .inl z), fun k hk => .inl ?_, fun k hk => .inl ?_⟩
  · unfold RK.Uses at hk ⊢; rw [h0, h1] at hk; exact hk
  · unfold RK.Foot at hk ⊢; rw [h0, h1] at hk; exact hk
theorem IsRS.xlen {base : Nat} {w : World} {s : RSl} (h : IsRS base w s) : s.xs.length = s.ln := by unfold RSl.xs; rw [List.length_map]; exact (owns_rrd h.lown).length
theorem rgood_bytes {w : World} {L : List RA} (h : ∀ e ∈ L, RA.Good w e) : ∀ x ∈ L.map RA.x, ∀ l, x = some l → ∀ c ∈ l, c < 256 := fun x hx l hl c hc => by
  obtain ⟨e, he, rfl⟩ := List.mem_map.1 hx
  exact ((h e he).bytes l hl).2.bytes c hc
end Go.Proofs.Ytbnnmelkbjkkjaa
