import Derived.Test.YtankiipkkbihiaaAddMulAny
namespace Go.Proofs.Ytankiipkkbihiaa
open Go.RowKit

theorem owns_bare (w : World) (base : Nat) (hb : base ≤ w.heap.size) : (w.alloc (.cells #[] 5)).ownsRow base 5 1 (.slice (some ⟨w.heap.size, 0, none⟩) 0 0) 0 (cellsOf []) :=
  ⟨rfl, .inr ⟨w.heap.size, 0, #[], rfl, hb, heap_alloc_new w _, Nat.le_refl _, by unfold maxLen; omega, rfl, rfl⟩⟩
theorem bare_reads {w : World} {base k : Nat} {v : Value} {l : List Nat} (h : w.ownsRow base 5 1 v (0 + k) (cellsOf [] ++ cellsOf l)) (hb : ∀ c ∈ l, c < 256) :
    ∃ a cap, v = .slice a k cap ∧ Reads w a k cap l ∧ w.ownsRow base 5 1 (.slice a k cap) k (cellsOf l) := by
  rw [Nat.zero_add, show cellsOf [] ++ cellsOf l = cellsOf l from rfl] at h
  obtain ⟨a, cap, rfl, r⟩ := owns_reads h hb
  exact ⟨a, cap, rfl, r, h⟩
theorem below_bare {w w' : World} (h : (w.alloc (.cells #[] 5)).grownBy w' (some w.heap.size)) : Below w.heap.size w w' :=
  Below.grown ((Below.refl _ _).alloc (Nat.le_refl _) _) h (by simp) (fun k e => by simp at e; omega)
theorem own_rowOf (a : Option Addr) (n cap : Nat) : (Value.slice a n cap).ownBlock = rowOf a := by cases a <;> rfl
theorem Below.owns {w w' : World} {base k : Nat} {v : Value} {xs : List Value} (h : Below w.heap.size w w') (o : w.ownsRow base 5 1 v k xs) : w'.ownsRow base 5 1 v k xs := by
  cases e : v.ownBlock with
  | none => exact o.kept (grown_below h none) (.inl e)
  | some g => exact o.kept (grown_below h none) (.inr (by rw [e]; simp))
theorem Soft.grown {w w' : World} {a : Option Addr} {n cap : Nat} {l : List Nat} (s : Soft w a n) (r : Reads w a n cap l) (h : Below w.heap.size w w') : Soft w' a n := fun b off e i hi => by
  obtain ⟨b', off', e', hc⟩ := r.cells (by omega)
  rw [e] at e'
  simp only [Option.some.injEq, Addr.mk.injEq] at e'
  obtain ⟨rfl, rfl, _⟩ := e'
  have hb : b < w.heap.size := World.block_lt_of_cell? w _ (hc 0 (by omega))
  rw [h.frozen hb]; exact s _ _ e i hi

/-- Where GfLines stands: the field, the two lists that came in, the copies a (now la) and b. -/
structure St (P B : Nat) (w wr : World) (SB : Nat) (a1 : Option Addr) (len1 cap1 : Nat) (lp : List Nat) (a2 : Option Addr) (len2 cap2 : Nat) (lq : List Nat) (M : Nat) (aa : Option Addr) (capa : Nat) (la : List Nat) (ab : Option Addr) (capb : Nat) (lb : List Nat) : Prop where
  f : IsF P B wr
  p1 : Reads wr a1 len1 cap1 lp
  p2 : Reads wr a2 len2 cap2 lq
  ra : Reads wr aa M capa la
  sa : Soft wr aa M
  rb : Reads wr ab M capb lb
  ob : wr.ownsRow SB 5 1 (.slice ab M capb) M (cellsOf lb)
  bl : Below w.heap.size w wr
  sz : SB ≤ wr.heap.size
  nB : some B ≠ rowOf aa
  n1 : 0 < len1 → rowOf a1 ≠ rowOf aa
  n2 : 0 < len2 → rowOf a2 ≠ rowOf aa
  nb : rowOf ab = none ∨ rowOf ab ≠ rowOf aa
  nw : ∀ g, rowOf aa = some g → w.heap.size ≤ g
  wS : w.heap.size ≤ SB
variable {P B : Nat} {w wr w' : World} {SB : Nat} {a1 : Option Addr} {len1 cap1 : Nat} {lp : List Nat} {a2 : Option Addr} {len2 cap2 : Nat} {lq : List Nat} {M : Nat} {aa : Option Addr} {capa : Nat} {la la' : List Nat} {ab : Option Addr} {capb : Nat} {lb : List Nat}
theorem St.below (s : St P B w wr SB a1 len1 cap1 lp a2 len2 cap2 lq M aa capa la ab capb lb) (h : Below wr.heap.size wr w') : St P B w w' SB a1 len1 cap1 lp a2 len2 cap2 lq M aa capa la ab capb lb :=
  ⟨IsF.below h (World.block_lt_of_cell? wr _ s.f.poly) s.f, s.p1.below h, s.p2.below h, s.ra.below h, s.sa.grown s.ra h, s.rb.below h, Below.owns h s.ob, s.bl.trans (h.mono s.bl.size), Nat.le_trans s.sz h.size, s.nB, s.n1, s.n2, s.nb, s.nw, s.wS⟩
theorem St.qt (s : St P B w wr SB a1 len1 cap1 lp a2 len2 cap2 lq M aa capa la ab capb lb) (h : Qt wr w') : St P B w w' SB a1 len1 cap1 lp a2 len2 cap2 lq M aa capa la ab capb lb := s.below (Qt.below h)
theorem St.turn (s : St P B w wr SB a1 len1 cap1 lp a2 len2 cap2 lq M aa capa la ab capb lb) (h : wr.grownBy w' (rowOf aa)) (r : Reads w' aa M capa la') (t : Soft w' aa M) : St P B w w' SB a1 len1 cap1 lp a2 len2 cap2 lq M aa capa la' ab capb lb :=
  ⟨s.f.grown h s.nB, s.p1.grown h s.n1, s.p2.grown h s.n2, r, t, s.rb.grown h (fun h0 => by
      rcases s.nb with e | e
      · obtain ⟨g, hg, _⟩ := reads_row s.rb h0
        rw [e] at hg; cases hg
      · exact e), s.ob.kept h (by rw [own_rowOf]; exact s.nb), Below.grown s.bl h s.bl.size s.nw, Nat.le_trans s.sz h.size, s.nB, s.n1, s.n2, s.nb, s.nw, s.wS⟩
theorem St.start {wa wb w1 : World} (f : IsF P B w1) (q1 : Reads w1 a1 len1 cap1 lp) (q2 : Reads w1 a2 len2 cap2 lq) (bl : Below w.heap.size w w1) (ba : Below w1.heap.size w1 wa) (bb : Below wa.heap.size wa wb)
    (ra : Reads wa aa M capa la) (oa : wa.ownsRow w1.heap.size 5 1 (.slice aa M capa) M (cellsOf la)) (rb : Reads wb ab M capb lb) (ob : wb.ownsRow wa.heap.size 5 1 (.slice ab M capb) M (cellsOf lb)) :
    St P B w wb wa.heap.size a1 len1 cap1 lp a2 len2 cap2 lq M aa capa la ab capb lb := by
  have hB : B < w1.heap.size := World.block_lt_of_cell? w1 _ f.poly
  have fa := IsF.below ba hB f
  have row := owns_row oa
  refine ⟨IsF.below bb (World.block_lt_of_cell? wa _ fa.poly) fa, (q1.below ba).below bb, (q2.below ba).below bb, ra.below bb, (owns_soft oa).grown ra bb, rb, ob, (bl.trans (ba.mono bl.size)).trans (bb.mono (Nat.le_trans bl.size ba.size)), bb.size, ?_, ?_, ?_, ?_, ?_, Nat.le_trans bl.size ba.size⟩
  · intro e; have := (row B e.symm).1; omega
  · intro h e
    obtain ⟨g, hg, hl⟩ := reads_row q1 h
    rw [hg] at e; have := (row g e.symm).1; omega
  · intro h e
    obtain ⟨g, hg, hl⟩ := reads_row q2 h
    rw [hg] at e; have := (row g e.symm).1; omega
  · cases h : rowOf ab with
    | none => exact .inl rfl
    | some g =>
      refine .inr fun e => ?_
      have k1 := (owns_row ob g h).1
      have k2 := (row g e.symm).2
      omega
  · intro g e
    have := (row g e).1
    have := bl.size
    omega
theorem list_ext_getD (l l' : List Nat) (h : l.length = l'.length) (e : ∀ i, i < l.length → l.getD i 0 = l'.getD i 0) : l = l' := by
  refine List.ext_getElem h fun i h1 h2 => ?_
  have := e i h1
  rw [List.getD_eq_getElem?_getD, List.getD_eq_getElem?_getD, List.getElem?_eq_getElem h1, List.getElem?_eq_getElem h2] at this
  simpa using this
theorem am_am (P c : Nat) (la lb : List Nat) (h : la.length = lb.length) : am P c (am P c la lb) lb = la := by
  have hl := am_length P c la lb _ h rfl
  refine list_ext_getD _ _ (by rw [am_length P c _ lb _ hl rfl]; exact h.symm) fun i hi => ?_
  rw [am_length P c _ lb _ hl rfl] at hi
  rw [am_getD P c _ lb i (by omega) hi, am_getD P c la lb i (by omega) hi, Nat.xor_assoc, Nat.xor_self, Nat.xor_zero]
theorem dot_am {P : Nat} (g : Gf.Good P) (c : Nat) (la lb : List Nat) (M : Nat) (h1 : la.length = M) (h2 : lb.length = M) (hb : ∀ x ∈ la, x < 256) :
    Gf.dot P ((am P c la lb).getD · 0) (lb.getD · 0) M = Gf.dot P (la.getD · 0) (lb.getD · 0) M ^^^ Gf.mul P c (Gf.dot P (lb.getD · 0) (lb.getD · 0) M) :=
  Gf.dot_add g c _ _ _ (getD_lt la hb) M (fun i hi => am_getD P c la lb i (by omega) (by omega))
theorem Reads.drop1 {w : World} {b off len cap : Nat} {l : List Nat} (r : Reads w (some ⟨b, off, none⟩) len cap l) (h : 0 < len) : Reads w (some ⟨b, off + 1, none⟩) (len - 1) (cap - 1) (l.drop 1) := by
  have hl := r.length
  have hr := r.room
  have hs := r.small
  refine ⟨by rw [List.length_drop]; omega, by omega, by omega, fun c hc => r.bytes c (List.mem_of_mem_drop hc), fun _ => ⟨b, off + 1, rfl, fun i hi => ?_⟩⟩
  obtain ⟨b', off', e, hc⟩ := r.cells h
  simp only [Option.some.injEq, Addr.mk.injEq] at e
  obtain ⟨rfl, rfl, _⟩ := e
  have := hc (1 + i) (by omega)
  rw [← Nat.add_assoc] at this
  rw [this, List.getD_eq_getElem?_getD, List.getD_eq_getElem?_getD, List.getElem?_drop]
theorem drop1_getD (l : List Nat) (i : Nat) : (l.drop 1).getD i 0 = l.getD (i + 1) 0 := by
  rw [List.getD_eq_getElem?_getD, List.getD_eq_getElem?_getD, List.getElem?_drop, Nat.add_comm]
/-- AddMul of a list onto itself, one place on. -/
theorem addMul_both {gc og capc c : Nat} {wc : World} (g : Gf.Good P) (hc : c < 256) (hm : cap1 ≤ 140737488351232) (hl : len1 ≤ cap1) (h2 : 2 ≤ len1) (s : St P B w wr SB a1 len1 cap1 lp a2 len2 cap2 lq M aa capa la ab capb lb)
    (bc : Below wr.heap.size wr wc) (rc : Reads wc (some ⟨gc, og, none⟩) len1 capc lp) (oc : wc.ownsRow wr.heap.size 5 1 (.slice (some ⟨gc, og, none⟩) len1 capc) len1 (cellsOf lp)) :
    Calls Try.prog 12 #[.pointer (some ⟨B, 0, none⟩), .slice (some ⟨gc, og + 1, none⟩) (len1 - 1) (capc - 1), .int .u8 (c : Int), .slice (some ⟨gc, og, none⟩) (len1 - 1) capc] wc.drew fun e w' => e = .returned (.int .i64 0) ∧
      St P B w w' SB a1 len1 cap1 lp a2 len2 cap2 lq M aa capa la ab capb lb ∧ (∀ j, j + 1 < len1 → w'.cell? ⟨gc, og + (j + 1), none⟩ = some (.int .u8 ((lp.getD (j + 1) 0 ^^^ Gf.mul P c (lp.getD j 0) : Nat) : Int))) ∧ w'.cell? ⟨B, 0, none⟩ = some (.int .i64 (P : Int)) := by
  have q : Qt wc wc.drew := Qt.drew wc
  have rd := q.reads (rc.drop1 (by omega))
  have rs := q.reads (rc.take (len1 - 1) (by omega))
  have so := owns_soft oc
  have sd : Soft wc.drew (some ⟨gc, og + 1, none⟩) (len1 - 1) := fun b off e i hi => by
    simp only [Option.some.injEq, Addr.mk.injEq] at e
    obtain ⟨rfl, rfl, _⟩ := e
    have := so gc og rfl (1 + i) (by omega)
    rw [← Nat.add_assoc] at this
    exact this
  have hg := (owns_row oc gc rfl).1
  have f := (s.below bc).f
  refine (addMul_any P B c (len1 - 1) (capc - 1) capc _ _ (lp.drop 1) (lp.take (len1 - 1)) wc.drew g (q.isF f) hc (by omega) rd sd rs).mono ?_
  rintro e w' ⟨rfl, h, r, _⟩
  have bl : Below wr.heap.size wr w' := Below.grown bc.drew h bc.size (fun k e => by
    have e : some gc = some k := e
    simp only [Option.some.injEq] at e
    omega)
  have s' := s.below bl
  refine ⟨rfl, s', fun j hj => ?_, s'.f.poly⟩
  obtain ⟨b', off', e, hcl⟩ := r.cells (by omega)
  simp only [Option.some.injEq, Addr.mk.injEq] at e
  obtain ⟨rfl, rfl, _⟩ := e
  have := hcl j (by omega)
  rw [am_getD P c _ _ j (by rw [List.length_drop, rc.length]; omega) (by rw [List.length_take, rc.length]; omega), drop1_getD, show og + 1 + j = og + (j + 1) by omega] at this
  rw [this, List.getD_eq_getElem?_getD (l := lp.take (len1 - 1)), List.getElem?_take_of_lt (by omega), ← List.getD_eq_getElem?_getD]
end Go.Proofs.Ytankiipkkbihiaa
