import Derived.Test.YthcnpijgfhinhaaSame
namespace Go.Proofs.Ythcnpijgfhinhaa
open Go.RowKit

/-- An entry of the book: a set of the program's and one of the document's. -/
structure Ent where
  b : Nat
  r : Nat
  N : Int
  K : Int
  D : Int
  a : Option Addr
  cap : Nat
  l : List Int
structure Ent.Ok (w : World) (e : Ent) : Prop where
  s : IsS w e.b e.N e.K e.D (lset e.l e.N)
  f : IsR w e.r e.N e.K e.D e.a e.cap e.l
theorem Ent.Ok.by {w w' : World} {e : Ent} (h : e.Ok w) (B : Below w.heap.size w w') : e.Ok w' := ⟨h.s.by B, h.f.by B⟩
structure Ent.Apart (e f : Ent) : Prop where
  b : e.b ≠ f.b
  r : e.r ≠ f.r
  a : ∀ g, blockOf e.a = some g → blockOf f.a ≠ some g
structure Ent.Far (B : Nat) (e : Ent) : Prop where
  b : B ≤ e.b
  r : B ≤ e.r
  a : ∀ g, blockOf e.a = some g → B ≤ g
def ptrB (e : Ent) : Value := .pointer (some ⟨e.b, 0, none⟩)
def ptrR (e : Ent) : Value := .pointer (some ⟨e.r, 0, none⟩)
def rowB (n : Nat) (f : Nat → Ent) : List Value := (List.range n).map (fun i => ptrB (f i))
def rowR (n : Nat) (f : Nat → Ent) : List Value := (List.range n).map (fun i => ptrR (f i))
/-- The book. -/
structure Bk (w wr : World) (B n : Nat) (f : Nat → Ent) (aS : Option Addr) (cS : Nat) (aR : Option Addr) (cR : Nat) : Prop where
  blk : wr.heap[B]? = some (.cells #[.slice aS n cS, .slice aR n cR] 49 (0, 0))
  rs : Row wr 26 aS n cS (rowB n f)
  rr : Row wr 54 aR n cR (rowR n f)
  ent : ∀ i, i < n → (f i).Ok wr
  ap : ∀ i j, i < n → j < n → i ≠ j → (f i).Apart (f j)
  far : ∀ i, i < n → (f i).Far w.heap.size
  hB : w.heap.size ≤ B
  fs : ∀ g, blockOf aS = some g → w.heap.size ≤ g
  fr : ∀ g, blockOf aR = some g → w.heap.size ≤ g
  bel : Below w.heap.size w wr
theorem Bk.by {w wr w' : World} {B n : Nat} {f : Nat → Ent} {aS : Option Addr} {cS : Nat} {aR : Option Addr} {cR : Nat} (h : Bk w wr B n f aS cS aR cR) (b : Below wr.heap.size wr w') : Bk w w' B n f aS cS aR cR :=
  ⟨(b.block _ (block_lt h.blk)).trans h.blk, h.rs.by b, h.rr.by b, fun i hi => (h.ent i hi).by b, h.ap, h.far, h.hB, h.fs, h.fr, h.bel.trans (b.mono h.bel.size)⟩
theorem Bk.cells {w wr : World} {B n : Nat} {f : Nat → Ent} {aS : Option Addr} {cS : Nat} {aR : Option Addr} {cR : Nat} (h : Bk w wr B n f aS cS aR cR) : wr.cell? ⟨B, 0, none⟩ = some (.slice aS n cS) ∧ wr.cell? ⟨B, 1, none⟩ = some (.slice aR n cR) ∧ wr.frozen? ⟨B, 0, none⟩ = false ∧ wr.frozen? ⟨B, 1, none⟩ = false :=
  ⟨cell_blk h.blk 0 rfl, cell_blk h.blk 1 rfl, soft_blk h.blk 0, soft_blk h.blk 1⟩
theorem rowB_at (n : Nat) (f : Nat → Ent) (i : Nat) (h : i < n) : (rowB n f)[i]? = some (ptrB (f i)) := by unfold rowB; simp [h]
theorem rowR_at (n : Nat) (f : Nat → Ent) (i : Nat) (h : i < n) : (rowR n f)[i]? = some (ptrR (f i)) := by unfold rowR; simp [h]
/-- A set's own blocks bear types of their own. -/
theorem blk_ne {w : World} {b c : Nat} {cs ds : Array Value} {t u : TypeId} (h1 : w.heap[b]? = some (.cells cs t (0, 0))) (h2 : w.heap[c]? = some (.cells ds u (0, 0))) (hn : t ≠ u) : b ≠ c := by
  rintro rfl
  rw [h1] at h2
  simp at h2
  exact hn h2.2
/-- One entry has changed by a call that touched its own blocks alone. -/
theorem Bk.touch {w wr w' : World} {B n : Nat} {f : Nat → Ent} {aS : Option Addr} {cS : Nat} {aR : Option Addr} {cR : Nat} (h : Bk w wr B n f aS cS aR cR) (i : Nat) (hi : i < n) (e' : Ent) (he : e'.Ok w') (hb : e'.b = (f i).b) (hr : e'.r = (f i).r) (ha : ∀ g, blockOf e'.a = some g → blockOf (f i).a = some g ∨ wr.heap.size ≤ g)
    (k : Kept (fun j => j = (f i).b ∨ j = (f i).r ∨ blockOf (f i).a = some j) wr w') : Bk w w' B n (fun j => if j = i then e' else f j) aS cS aR cR := by
  have ei := h.ent i hi
  have fi := h.far i hi
  have typ : ∀ {c : Nat} {cs : Array Value} {t : TypeId}, wr.heap[c]? = some (.cells cs t (0, 0)) → t ≠ 63 → t ≠ 78 → t ≠ 3 → ¬ (c = (f i).b ∨ c = (f i).r ∨ blockOf (f i).a = some c) := fun hc h1 h2 h3 q => by
    rcases q with q | q | q
    · exact blk_ne hc ei.s.blk h1 q
    · exact blk_ne hc ei.f.blk h2 q
    · obtain ⟨cur, hg⟩ := ei.f.row.blk q
      exact blk_ne hc hg h3 rfl
  have eB : rowB n (fun j => if j = i then e' else f j) = rowB n f := by
    unfold rowB
    apply List.map_congr_left
    intro j _
    show ptrB (if j = i then e' else f j) = ptrB (f j)
    split
    · rename_i q; subst q; unfold ptrB; rw [hb]
    · rfl
  have eR : rowR n (fun j => if j = i then e' else f j) = rowR n f := by
    unfold rowR
    apply List.map_congr_left
    intro j _
    show ptrR (if j = i then e' else f j) = ptrR (f j)
    split
    · rename_i q; subst q; unfold ptrR; rw [hr]
    · rfl
  refine ⟨k.get h.blk (typ h.blk (by decide) (by decide) (by decide)), ?_, ?_, fun j hj => ?_, fun j m hj hm hne => ?_, fun j hj => ?_, h.hB, h.fs, h.fr, h.bel.trans (k.below h.bel.size (fun j q => ?_))⟩
  · rw [eB]; exact h.rs.kept k (fun g e => by obtain ⟨cur, hg⟩ := h.rs.blk e; exact typ hg (by decide) (by decide) (by decide))
  · rw [eR]; exact h.rr.kept k (fun g e => by obtain ⟨cur, hg⟩ := h.rr.blk e; exact typ hg (by decide) (by decide) (by decide))
  · show (if j = i then e' else f j).Ok w'
    split
    · exact he
    · rename_i q
      have aj := h.ap j i hj hi q
      have ej := h.ent j hj
      refine ⟨ej.s.kept k (fun p => ?_), ej.f.kept k (fun p => ?_) (fun g e p => ?_)⟩
      · rcases p with p | p | p
        · exact aj.b p
        · exact blk_ne ej.s.blk ei.f.blk (by decide) p
        · obtain ⟨cur, hg⟩ := ei.f.row.blk p
          exact blk_ne ej.s.blk hg (by decide) rfl
      · rcases p with p | p | p
        · exact blk_ne ej.f.blk ei.s.blk (by decide) p
        · exact aj.r p
        · obtain ⟨cur, hg⟩ := ei.f.row.blk p
          exact blk_ne ej.f.blk hg (by decide) rfl
      · obtain ⟨cur, hg⟩ := ej.f.row.blk e
        rcases p with p | p | p
        · exact blk_ne hg ei.s.blk (by decide) p
        · exact blk_ne hg ei.f.blk (by decide) p
        · exact aj.a g e p
  · show (if j = i then e' else f j).Apart (if m = i then e' else f m)
    by_cases q : j = i
    · subst q
      rw [if_pos rfl, if_neg (fun q => hne q.symm)]
      have am := h.ap j m hj hm hne
      refine ⟨by rw [hb]; exact am.b, by rw [hr]; exact am.r, fun g e e2 => ?_⟩
      rcases ha g e with q | q
      · exact am.a g q e2
      · have := (h.ent m hm).f.row.lt e2; omega
    · rw [if_neg q]
      by_cases q2 : m = i
      · subst q2
        rw [if_pos rfl]
        have am := h.ap j m hj hm hne
        refine ⟨by rw [hb]; exact am.b, by rw [hr]; exact am.r, fun g e e2 => ?_⟩
        rcases ha g e2 with q | q
        · exact am.a g e q
        · have := (h.ent j hj).f.row.lt e; omega
      · rw [if_neg q2]; exact h.ap j m hj hm hne
  · show (if j = i then e' else f j).Far w.heap.size
    split
    · refine ⟨by rw [hb]; exact fi.b, by rw [hr]; exact fi.r, fun g e => ?_⟩
      rcases ha g e with q | q
      · exact fi.a g q
      · exact Nat.le_trans h.bel.size q
    · exact h.far j hj
  · rcases q with q | q | q
    · rw [q]; exact fi.b
    · rw [q]; exact fi.r
    · exact fi.a j q
theorem modp_big (x n : Int) (hn : 1 ≤ n ∧ n ≤ 4611686018427387904) : ∃ r, 0 ≤ r ∧ r < n ∧ (wrap64 (x.tmod n + n)).tmod n = r := by
  have a := Int.tmod_lt_of_pos x (b := n) (by omega)
  have b := Int.lt_tmod_of_pos x (b := n) (by omega)
  have e : wrap64 (x.tmod n + n) = x.tmod n + n := by
    generalize x.tmod n = y at a b
    unfold wrap64; omega
  rw [e, Int.tmod_eq_emod_of_nonneg (by omega)]
  exact ⟨_, Int.emod_nonneg _ (by omega), Int.emod_lt_of_pos _ (by omega), rfl⟩
theorem le_of_lt_succ (i n : Nat) (k : Int) (h : (i : Int) < k) (hk : k = (n : Int) + 1) : i ≤ n := by omega
theorem one_le_succ (n : Nat) (k : Int) (hk : k = (n : Int) + 1) : 1 ≤ k := by omega
/-- What At answers: two nils, or an entry's two sets. -/
def AtRes (wr : World) (n : Nat) (f : Nat → Ent) (o : Ending) (w' : World) : Prop := (o = .returned (.tuple #[.pointer none, .pointer none]) ∧ Below wr.heap.size wr w') ∨ ∃ i, i < n ∧ o = .returned (.tuple #[ptrB (f i), ptrR (f i)]) ∧ Below wr.heap.size wr w'
set_option maxRecDepth 100000 in
set_option maxHeartbeats 2000000 in
theorem bookAt {w wr : World} {B n : Nat} {f : Nat → Ent} {aS : Option Addr} {cS : Nat} {aR : Option Addr} {cR : Nat} (h : Bk w wr B n f aS cS aR cR) (hn : n ≤ 4611686018427387000) (x : Int) :
    Calls Try.prog 37 #[.pointer (some ⟨B, 0, none⟩), .int .i64 x] wr (AtRes wr n f) := by
  obtain ⟨c0, c1, _, _⟩ := h.cells
  have H : Hid (Bk w wr B n f aS cS aR cR) := h
  have ms := h.rs.room
  have mr := h.rr.room
  clear h
  obtain ⟨k, hk⟩ : ∃ k : Int, k = (n : Int) + 1 := ⟨_, rfl⟩
  obtain ⟨q, q0, q1, hq⟩ := modp_big x k (by omega)
  obtain ⟨y, hy⟩ : ∃ y, x.tmod k = y := ⟨_, rfl⟩
  rw [hy] at hq
  obtain ⟨z, hz⟩ : ∃ z, wrap64 (y + k) = z := ⟨_, rfl⟩
  rw [hz] at hq
  have hz' : IntKind.i64.wrap (y + k) = z := by rw [IntKind.wrap_i64]; unfold wrap64 at hz; exact hz
  have nz : ¬ k = 0 := by omega
  have HN : Hid (n ≤ 4611686018427387000) := hn
  have ek2 : IntKind.i64.wrap ((n : Int) + 1) = k := by rw [IntKind.wrap_i64]; omega
  have ek3 : wrap64 ((n : Int) + 1) = k := by unfold wrap64; omega
  obtain ⟨i, hi⟩ : ∃ i : Nat, q = (i : Int) := ⟨q.toNat, by omega⟩
  subst hi
  have HK : Hid (k = (n : Int) + 1) := hk
  have q1' : i ≤ n := le_of_lt_succ i n k q1 hk
  have kp : 1 ≤ k := one_le_succ n k hk
  clear hk q0 q1 hn
  have nn : n ≤ 4611686018427387000 := HN.out
  by_cases hin : i = n
  · subst hin
    go_enter Try.func37, Try.ntmps37
    go_wp2_with fail
    go_ret2
    exact .inl ⟨rfl, Below.refl _ _⟩
  · have e1 : ¬ (i : Int) = (n : Int) := fun q => hin (Int.ofNat.inj q)
    have i1 : i < n := Nat.lt_of_le_of_ne q1' hin
    have i2 : (i : Int) < (n : Int) := Int.ofNat_lt.2 i1
    clear hin q1'
    obtain ⟨g, rfl⟩ := H.out.rs.some_of (Nat.lt_of_le_of_lt (Nat.zero_le _) i1)
    obtain ⟨g2, rfl⟩ := H.out.rr.some_of (Nat.lt_of_le_of_lt (Nat.zero_le _) i1)
    have d0 := H.out.rs.cell i _ (rowB_at n f i i1)
    have d1 := H.out.rr.cell i _ (rowR_at n f i i1)
    unfold ptrB at d0
    unfold ptrR at d1
    go_enter Try.func37, Try.ntmps37
    go_wp2_with fail
    go_quiet (fail)
    go_wp2_with fail
    go_ret2
    exact .inr ⟨i, i1, rfl, below_drewN _ _⟩
end Go.Proofs.Ythcnpijgfhinhaa
