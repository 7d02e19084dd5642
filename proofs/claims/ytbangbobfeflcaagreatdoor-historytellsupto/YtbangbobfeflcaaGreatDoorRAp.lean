import Derived.Test.YtbangbobfeflcaaGreatDoorRPoJ
namespace Go.Proofs.YtbangbobfeflcaaGreatDoor
open Go.RowKit 

theorem kgr {w w' : World} {p : Option Addr} {n c : Nat} (hg : w.grownBy w' (Value.slice p n c).ownBlock) : Kept (fun j => blockOf p = some j) w w' := (Kept.refl (fun j => blockOf p = some j) w).grown hg (fun j _ z => by rw [blockOf_own] at z; exact z)
/-- A row in memory: where, how long, its room, what is in it. -/
structure Rw where
  p : Option Addr
  n : Nat
  c : Nat
  xs : List Value
/-- Rows of one type, each in a block of its own. -/
structure RB (b0 : Nat) (ty : TypeId) (W : World) (R : List Rw) : Prop where
  own : ∀ (m : Nat) (r : Rw), R[m]? = some r → W.ownsRow b0 ty 1 (.slice r.p r.n r.c) r.n r.xs
  ne : ∀ (m n : Nat) (r s : Rw), m ≠ n → R[m]? = some r → R[n]? = some s → ∀ b, blockOf r.p = some b → ¬ blockOf s.p = some b
theorem RB.k0 {b0 : Nat} {ty : TypeId} {W W' : World} {R : List Rw} (h : RB b0 ty W R) (K : Kept (fun _ => False) W W') : RB b0 ty W' R := ⟨fun m r hr => K.owns (h.own m r hr) (fun _ _ z => z), h.ne⟩
/-- A row of another type grows. -/
theorem RB.other {b0 b1 : Nat} {ty t' : TypeId} {W W' : World} {R : List Rw} {p : Option Addr} {n c size : Nat} {xs : List Value} (h : RB b0 ty W R) (ho : W.ownsRow b1 t' size (.slice p n c) n xs) (ht : t' ≠ ty) (hg : W.grownBy W' (Value.slice p n c).ownBlock) : RB b0 ty W' R := ⟨fun m r hr => (kgr hg).owns (h.own m r hr) (fun j z e => by
  rw [blockOf_own] at z
  obtain ⟨c1, e1⟩ := own_type (h.own m r hr) j z
  obtain ⟨c2, e2⟩ := own_type ho j e
  rw [e1] at e2
  simp at e2
  exact ht e2.2.symm), h.ne⟩
/-- One of them grows. -/
theorem RB.grow {b0 : Nat} {ty : TypeId} {W W' : World} {R : List Rw} {m n c c9 : Nat} {p p9 : Option Addr} {xs ys : List Value} (h : RB b0 ty W R) (hm : R[m]? = some ⟨p, n, c, xs⟩) (ho : W'.ownsRow b0 ty 1 (.slice p9 (n + 1) c9) (n + 1) ys) (hg : W.grownBy W' (Value.slice p n c).ownBlock) (hn : (Value.slice p9 (n + 1) c9).ownBlock = (Value.slice p n c).ownBlock ∨ ((Value.slice p9 (n + 1) c9).ownBlock = some W.heap.size ∧ W.grownBy W' none)) : RB b0 ty W' (R.set m ⟨p9, n + 1, c9, ys⟩) := by
  have hl := (List.getElem?_eq_some_iff.1 hm).1
  have key : ∀ (i : Nat) (r : Rw), i ≠ m → R[i]? = some r → ∀ b, blockOf p9 = some b → ¬ blockOf r.p = some b := fun i r hi hr b e1 e2 => by
    rcases hn with z | ⟨z, _⟩
    · rw [blockOf_own, blockOf_own] at z
      exact h.ne m i _ r (fun q => hi q.symm) hm hr b (z ▸ e1) e2
    · rw [blockOf_own] at z
      have q := (own_lt (h.own i r hr) b e2).2
      rw [e1] at z
      have : b = W.heap.size := by simpa using z
      omega
  refine ⟨fun i r hr => ?_, fun i j r s hij hr hs b e1 e2 => ?_⟩
  · by_cases hi : i = m
    · subst hi
      rw [List.getElem?_set_self hl] at hr
      obtain rfl : Rw.mk p9 (n + 1) c9 ys = r := by simpa using hr
      exact ho
    · rw [List.getElem?_set_ne (fun q => hi q.symm)] at hr
      exact (kgr hg).owns (h.own i r hr) (fun j z e => by
        rw [blockOf_own] at z
        exact h.ne m i _ r (fun q => hi q.symm) hm hr j e z)
  · by_cases hi : i = m
    · subst hi
      rw [List.getElem?_set_self hl] at hr
      obtain rfl : Rw.mk p9 (n + 1) c9 ys = r := by simpa using hr
      rw [List.getElem?_set_ne hij] at hs
      exact key j s (fun q => hij q.symm) hs b e1 e2
    · rw [List.getElem?_set_ne (fun q => hi q.symm)] at hr
      by_cases hj : j = m
      · subst hj
        rw [List.getElem?_set_self hl] at hs
        obtain rfl : Rw.mk p9 (n + 1) c9 ys = s := by simpa using hs
        exact key i r hi hr b e2 e1
      · rw [List.getElem?_set_ne (fun q => hj q.symm)] at hs
        exact h.ne i j r s hij hr hs b e1 e2
/-- A mark of one's own. -/
def mkN (a : Nat) : Nat := (a * 3 + 1) % 256
def mkV (a : Nat) : Value := .int .u8 (mkN a : Int)
def slv (R : List Rw) : List Value := R.map fun r => .slice r.p r.n r.c
theorem slv_at {R : List Rw} {i : Nat} {r : Rw} (h : R[i]? = some r) : (slv R)[i]? = some (.slice r.p r.n r.c) := by unfold slv; rw [List.getElem?_map, h]; rfl
/-- What the rows hold while they are written over. -/
def st1 (i j a : Nat) (r : Rw) : List Value := if a < i then List.replicate r.n (mkV a) else if a = i then List.replicate j (mkV i) ++ r.xs.drop j else r.xs
/-- Rows, one after another, written over: a list of lists, each in a block of its own. -/
structure A1 (b0 : Nat) (w W : World) (P : Option Addr) (n C : Nat) (R : List Rw) (i j : Nat) : Prop where
  all : W.ownsRow b0 34 1 (.slice P n C) n (slv R)
  own : ∀ (a : Nat) (r : Rw), R[a]? = some r → W.ownsRow b0 5 1 (.slice r.p r.n r.c) r.n (st1 i j a r)
  kept : Kept (fun b => ∃ (a : Nat) (r : Rw), R[a]? = some r ∧ blockOf r.p = some b) w W
theorem A1.len {b0 : Nat} {w W : World} {P : Option Addr} {n C : Nat} {R : List Rw} {i j : Nat} (h : A1 b0 w W P n C R i j) : R.length = n := by
  have q := h.all.1
  unfold slv at q
  rw [List.length_map] at q
  omega
theorem A1.at {b0 : Nat} {w W : World} {P : Option Addr} {n C : Nat} {R : List Rw} {i j : Nat} (h : A1 b0 w W P n C R i j) {a : Nat} (ha : a < n) : ∃ g r, P = some ⟨g, 0, none⟩ ∧ R[a]? = some r ∧ W.cell? ⟨g, a, none⟩ = some (.slice r.p r.n r.c) := by
  obtain ⟨r, hr⟩ : ∃ r, R[a]? = some r := ⟨_, List.getElem?_eq_getElem (by rw [h.len]; exact ha)⟩
  rcases h.all.2 with ⟨_, z⟩ | ⟨g, cap, cur, z, _⟩
  · omega
  · have z : Value.slice P n C = .slice (some ⟨g, 0, none⟩) n cap := z
    injection z with z1 _ _
    subst z1
    have q := h.all.cells (g := g) rfl a _ (slv_at hr)
    rw [Addr.add_none, Nat.zero_add] at q
    exact ⟨g, r, rfl, hr, q⟩
/-- One byte more. -/
theorem A1.put {b0 : Nat} {w W : World} {P : Option Addr} {n C : Nat} {R : List Rw} {i j : Nat} (h : A1 b0 w W P n C R i j) (hne : ∀ (m n : Nat) (r s : Rw), m ≠ n → R[m]? = some r → R[n]? = some s → ∀ b, blockOf r.p = some b → ¬ blockOf s.p = some b) {r : Rw} (hr : R[i]? = some r) (hj : j < r.n) (hx : r.xs.length = r.n) : ∃ g, r.p = some ⟨g, 0, none⟩ ∧ A1 b0 w (W.setCell ⟨g, j, none⟩ (mkV i)) P n C R i (j + 1) ∧ (∃ v, W.cell? ⟨g, j, none⟩ = some v) ∧ W.frozen? ⟨g, j, none⟩ = false := by
  have o := h.own i r hr
  rcases o.2 with ⟨_, z⟩ | ⟨g, cap, cur, z, _, hb, _⟩
  · omega
  · have z : Value.slice r.p r.n r.c = .slice (some ⟨g, 0, none⟩) r.n cap := z
    injection z with z1 _ z3
    refine ⟨g, z1, ⟨?_, fun a s hs => ?_, ?_⟩, ?_, soft_blk hb j⟩
    · refine ((Kept.refl (fun k => k = g) W).setCell (p := ⟨g, j, none⟩) (fun _ => rfl) (mkV i)).owns h.all (fun k hk z => ?_)
      have z : k = g := z
      subst z
      rw [blockOf_own] at hk
      obtain ⟨c1, e1⟩ := own_type h.all k hk
      rw [hb] at e1
      simp at e1
    · by_cases ha : a = i
      · subst ha
        rw [hr] at hs
        obtain rfl := Option.some.inj hs
        rw [z1] at o ⊢
        have q := owns_set o j (mkV a)
        have e : (st1 a j a r).set j (mkV a) = st1 a (j + 1) a r := by
          unfold st1
          rw [if_neg (Nat.lt_irrefl _), if_pos rfl, if_neg (Nat.lt_irrefl _), if_pos rfl, List.set_append_right _ _ (by simp), List.length_replicate, Nat.sub_self]
          have e2 : r.xs.drop j = r.xs[j]'(by omega) :: r.xs.drop (j + 1) := List.drop_eq_getElem_cons (by omega)
          rw [e2, List.set_cons_zero, List.replicate_succ', List.append_assoc]
          rfl
        rw [e] at q
        exact q
      · have q := ((Kept.refl (fun k => k = g) W).setCell (p := ⟨g, j, none⟩) (fun _ => rfl) (mkV i)).owns (h.own a s hs) (fun k hk z => by
          have z : k = g := z
          subst z
          rw [blockOf_own] at hk
          exact hne i a r s (fun z => ha z.symm) hr hs k (by rw [z1]; rfl) hk)
        have e : st1 i (j + 1) a s = st1 i j a s := by
          unfold st1
          rw [if_neg (c := a = i) ha, if_neg (c := a = i) ha]
        rw [e]
        exact q
    · exact h.kept.setCell (p := ⟨g, j, none⟩) (fun _ => ⟨i, r, hr, by rw [z1]; rfl⟩) (mkV i)
    · rw [z1] at o
      have ol := o.1
      obtain ⟨v, hv⟩ : ∃ v, (st1 i j i r)[j]? = some v := ⟨_, List.getElem?_eq_getElem (by omega)⟩
      have q := o.cells (g := g) rfl j v hv
      rw [Addr.add_none, Nat.zero_add] at q
      exact ⟨v, q⟩
theorem A1.next {b0 : Nat} {w W : World} {P : Option Addr} {n C : Nat} {R : List Rw} {i : Nat} {r : Rw} (h : A1 b0 w W P n C R i r.n) (hr : R[i]? = some r) (hx : r.xs.length = r.n) (hb : i < n) : A1 b0 w W P n C R (i + 1) 0 := by
  refine ⟨h.all, fun a s hs => ?_, h.kept⟩
  have q := h.own a s hs
  have e : st1 i r.n a s = st1 (i + 1) 0 a s := by
    unfold st1
    by_cases h1 : a < i
    · rw [if_pos h1, if_pos (by omega)]
    · by_cases h2 : a = i
      · subst h2
        rw [hr] at hs
        obtain rfl := Option.some.inj hs
        rw [if_neg h1, if_pos rfl, if_pos (by omega), List.drop_of_length_le (by omega), List.append_nil]
      · rw [if_neg h1, if_neg h2, if_neg (by omega)]
        by_cases h3 : a = i + 1
        · rw [if_pos h3]
          rfl
        · rw [if_neg h3]
  rw [← e]
  exact q
/-- What is known of the rows ahead. -/
structure RS (w : World) (R : List Rw) : Prop where
  ne : ∀ (m n : Nat) (r s : Rw), m ≠ n → R[m]? = some r → R[n]? = some s → ∀ b, blockOf r.p = some b → ¬ blockOf s.p = some b
  lt : ∀ (a : Nat) (r : Rw), R[a]? = some r → ∀ b, blockOf r.p = some b → b < w.heap.size
  xs : ∀ (a : Nat) (r : Rw), R[a]? = some r → r.xs.length = r.n
  sm : ∀ (a : Nat) (r : Rw), R[a]? = some r → r.n ≤ 1000000000
  fm : ∀ (a : Nat) (r : Rw), R[a]? = some r → 0 < r.n → ∃ g, r.p = some ⟨g, 0, none⟩
/-- Rows that grow by seventy marks each. -/
structure A2 (b0 : Nat) (w W : World) (P : Option Addr) (n C : Nat) (R : List Rw) (Q : Option Addr) (D : Nat) (U : List Rw) (i k : Nat) : Prop where
  all : W.ownsRow b0 34 1 (.slice P n C) n (slv R)
  mor : W.ownsRow w.heap.size 34 1 (.slice Q i D) i (slv (U.take i))
  rb : RB b0 5 W U
  ul : U.length = n
  at_ : ∀ (a : Nat) (r : Rw), R[a]? = some r → ∃ y, U[a]? = some y ∧ y.n = r.n + (if a < i then 70 else if a = i then k else 0) ∧ y.xs = List.replicate y.n (mkV a) ∧ ((i < a ∨ (a = i ∧ k = 0)) → y.p = r.p ∧ y.c = r.c) ∧ (∀ b, blockOf y.p = some b → blockOf r.p = some b ∨ w.heap.size ≤ b)
  rd : ∀ (a : Nat) (r : Rw), R[a]? = some r → ∀ g, r.p = some ⟨g, 0, none⟩ → ∀ j, j < r.n → W.cell? ⟨g, j, none⟩ = some (mkV a)
  kept : Kept (fun b => ∃ (a : Nat) (r : Rw), R[a]? = some r ∧ blockOf r.p = some b) w W
theorem A2.k0 {b0 : Nat} {w W W' : World} {P : Option Addr} {n C : Nat} {R : List Rw} {Q : Option Addr} {D : Nat} {U : List Rw} {i k : Nat} (h : A2 b0 w W P n C R Q D U i k) (K : Kept (fun _ => False) W W') : A2 b0 w W' P n C R Q D U i k :=
  ⟨K.owns h.all (fun _ _ z => z), K.owns h.mor (fun _ _ z => z), h.rb.k0 K, h.ul, h.at_, fun a r hr g hg j hj => K.cell (h.rd a r hr g hg j hj) (fun z => z), h.kept.trans K (fun _ _ z => z.elim)⟩
def fillR (R : List Rw) : List Rw := (List.range R.length).map fun a => match R[a]? with | some r => ⟨r.p, r.n, r.c, List.replicate r.n (mkV a)⟩ | none => ⟨none, 0, 0, []⟩
theorem fillR_at {R : List Rw} {a : Nat} {r : Rw} (h : R[a]? = some r) : (fillR R)[a]? = some ⟨r.p, r.n, r.c, List.replicate r.n (mkV a)⟩ := by
  have hl := (List.getElem?_eq_some_iff.1 h).1
  unfold fillR
  rw [List.getElem?_map, List.getElem?_range hl]
  simp only [Option.map_some, h]
theorem fillR_inv {R : List Rw} {a : Nat} {y : Rw} (h : (fillR R)[a]? = some y) : ∃ r, R[a]? = some r ∧ y = ⟨r.p, r.n, r.c, List.replicate r.n (mkV a)⟩ := by
  have hl := (List.getElem?_eq_some_iff.1 h).1
  unfold fillR at hl
  rw [List.length_map, List.length_range] at hl
  obtain ⟨r, hr⟩ : ∃ r, R[a]? = some r := ⟨_, List.getElem?_eq_getElem hl⟩
  rw [fillR_at hr] at h
  exact ⟨r, hr, (Option.some.inj h).symm⟩
theorem A1.done {b0 : Nat} {w W : World} {P : Option Addr} {n C : Nat} {R : List Rw} (h : A1 b0 w W P n C R n 0) (rs : RS w R) : A2 b0 w W P n C R none 0 (fillR R) 0 0 := by
  have own : ∀ (a : Nat) (r : Rw), R[a]? = some r → W.ownsRow b0 5 1 (.slice r.p r.n r.c) r.n (List.replicate r.n (mkV a)) := fun a r hr => by
    have q := h.own a r hr
    have hl := (List.getElem?_eq_some_iff.1 hr).1
    rw [h.len] at hl
    unfold st1 at q
    rw [if_pos hl] at q
    exact q
  refine ⟨h.all, ⟨rfl, .inl ⟨rfl, rfl⟩⟩, ⟨fun a y hy => ?_, fun m n y s hmn hy hs b => ?_⟩, ?_, fun a r hr => ?_, fun a r hr g hg j hj => ?_, h.kept⟩
  · obtain ⟨r, hr, rfl⟩ := fillR_inv hy
    exact own a r hr
  · obtain ⟨r, hr, rfl⟩ := fillR_inv hy
    obtain ⟨r2, hr2, rfl⟩ := fillR_inv hs
    exact rs.ne m n r r2 hmn hr hr2 b
  · unfold fillR
    rw [List.length_map, List.length_range]
    exact h.len
  · refine ⟨_, fillR_at hr, ?_, rfl, fun _ => ⟨rfl, rfl⟩, fun b hb => .inl hb⟩
    show r.n = r.n + _
    rw [if_neg (Nat.not_lt_zero _)]
    split <;> rfl
  · have q := own a r hr
    rw [hg] at q
    have c := q.cells (g := g) rfl j (mkV a) (by rw [List.getElem?_replicate, if_pos hj])
    rw [Addr.add_none, Nat.zero_add] at c
    exact c
/-- One mark more behind the row that grows. -/
theorem A2.app {b0 : Nat} {w W W' : World} {P : Option Addr} {n C : Nat} {R : List Rw} {Q : Option Addr} {D : Nat} {U : List Rw} {i k : Nat} (h : A2 b0 w W P n C R Q D U i k) (rs : RS w R) {r y : Rw} (hr : R[i]? = some r) (hy : U[i]? = some y) {p9 : Option Addr} {c9 : Nat}
    (ho : W'.ownsRow b0 5 1 (.slice p9 (y.n + 1) c9) (y.n + 1) (y.xs ++ [mkV i])) (hg : W.grownBy W' (Value.slice y.p y.n y.c).ownBlock) (hn : (Value.slice p9 (y.n + 1) c9).ownBlock = (Value.slice y.p y.n y.c).ownBlock ∨ ((Value.slice p9 (y.n + 1) c9).ownBlock = some W.heap.size ∧ W.grownBy W' none)) : A2 b0 w W' P n C R Q D (U.set i ⟨p9, y.n + 1, c9, y.xs ++ [mkV i]⟩) i (k + 1) := by
  obtain ⟨p, m, c, xs⟩ := y
  simp only at ho hg hn hy ⊢
  have hl := (List.getElem?_eq_some_iff.1 hy).1
  have KG := kgr hg
  have oy := h.rb.own i _ hy
  simp only at oy
  obtain ⟨y0, hy0, yn, yx, yf, yb⟩ := h.at_ i r hr
  rw [hy] at hy0
  obtain rfl := Option.some.inj hy0
  simp only at yn yx yf yb
  have ws : w.heap.size ≤ W.heap.size := h.kept.size
  have nt : ∀ {q : Option Addr} {a b s : Nat} {zs : List Value} {bb : Nat}, W.ownsRow bb 34 s (.slice q a b) a zs → ∀ j, blockOf q = some j → ¬ blockOf p = some j := fun o j e1 e2 => by
    obtain ⟨c1, z1⟩ := own_type o j e1
    obtain ⟨c2, z2⟩ := own_type oy j e2
    rw [z1] at z2
    simp at z2
  refine ⟨KG.owns h.all (fun j z => by rw [blockOf_own] at z; exact nt h.all j z), ?_, h.rb.grow hy ho hg hn, by rw [List.length_set]; exact h.ul, fun a s hs => ?_, fun a s hs g hgs j hj => ?_, ?_⟩
  · have q := KG.owns h.mor (fun j z => by rw [blockOf_own] at z; exact nt h.mor j z)
    have e : (U.set i ⟨p9, m + 1, c9, xs ++ [mkV i]⟩).take i = U.take i := by
      rw [List.take_set, List.set_eq_of_length_le (by rw [List.length_take]; omega)]
    rw [e]
    exact q
  · by_cases ha : a = i
    · subst ha
      rw [hr] at hs
      obtain rfl := Option.some.inj hs
      refine ⟨_, List.getElem?_set_self hl, ?_, ?_, fun z => ?_, fun b hb => ?_⟩
      · show m + 1 = _
        have yn2 : m = r.n + k := by simpa using yn
        rw [if_neg (Nat.lt_irrefl _), if_pos rfl]
        omega
      · show xs ++ [mkV a] = List.replicate (m + 1) (mkV a)
        rw [yx, List.replicate_succ']
      · rcases z with z | z
        · omega
        · have := z.2
          omega
      · have hb : blockOf p9 = some b := hb
        rcases hn with z | ⟨z, _⟩
        · rw [blockOf_own, blockOf_own] at z
          exact yb b (z ▸ hb)
        · rw [blockOf_own, hb] at z
          have : b = W.heap.size := by simpa using z
          exact .inr (by omega)
    · obtain ⟨y2, h2, e1, e2, e3, e4⟩ := h.at_ a s hs
      refine ⟨y2, by rw [List.getElem?_set_ne (fun q => ha q.symm)]; exact h2, ?_, e2, fun z => e3 ?_, e4⟩
      · rw [e1]
        by_cases h1 : a < i
        · rw [if_pos h1, if_pos h1]
        · rw [if_neg h1, if_neg h1, if_neg ha, if_neg ha]
      · rcases z with z | z
        · exact .inl z
        · exact absurd z.1 ha
  · have old := h.rd a s hs g hgs j hj
    by_cases hb : blockOf p = some g
    · -- the row that grows lies there
      have ai : a = i := by
        refine Classical.byContradiction fun hne => ?_
        have q1 := rs.lt a s hs g (by rw [hgs]; rfl)
        rcases yb g hb with z | z
        · exact rs.ne i a r s (fun z => hne z.symm) hr hs g z (by rw [hgs]; rfl)
        · omega
      subst ai
      rw [hr] at hs
      obtain rfl := Option.some.inj hs
      rcases hn with z | ⟨_, gn⟩
      · rw [blockOf_own, blockOf_own, hb] at z
        obtain ⟨g9, e9⟩ : ∃ g9, p9 = some ⟨g9, 0, none⟩ := by
          rcases ho.2 with ⟨_, z⟩ | ⟨g', cap, cur, z, _⟩
          · omega
          · injection z with z1 _ _
            exact ⟨g', z1⟩
        rw [e9] at z ho
        obtain rfl : g9 = g := by
          have z : some g9 = some g := z
          exact Option.some.inj z
        have q := ho.cells (g := g9) rfl j (mkV a) (by rw [yx, ← List.replicate_succ', List.getElem?_replicate, if_pos (by omega)])
        rw [Addr.add_none, Nat.zero_add] at q
        exact q
      · exact ((Kept.refl (fun _ => False) W).grown gn (fun j _ z => by simp at z)).cell old (fun z => z)
    · exact KG.cell old hb
  · refine h.kept.trans KG (fun j hj z => ?_)
    rcases yb j z with q | q
    · exact ⟨i, r, hr, q⟩
    · omega
/-- The grown row is put behind the others. -/
theorem A2.push {b0 : Nat} {w W W' : World} {P : Option Addr} {n C : Nat} {R : List Rw} {Q : Option Addr} {D : Nat} {U : List Rw} {i : Nat} (h : A2 b0 w W P n C R Q D U i 70) {y : Rw} (hy : U[i]? = some y) {p9 : Option Addr} {c9 : Nat}
    (ho : W'.ownsRow w.heap.size 34 1 (.slice p9 (i + 1) c9) (i + 1) (slv (U.take i) ++ [.slice y.p y.n y.c])) (hg : W.grownBy W' (Value.slice Q i D).ownBlock) (hall : P ≠ none → ∃ g, P = some ⟨g, 0, none⟩ ∧ g < w.heap.size) (hlt : ∀ (a : Nat) (r : Rw), R[a]? = some r → ∀ b, blockOf r.p = some b → b < w.heap.size) : A2 b0 w W' P n C R p9 c9 U (i + 1) 0 := by
  have KG := kgr hg
  refine ⟨KG.owns h.all (fun j z e => ?_), ?_, h.rb.other h.mor (by decide) hg, h.ul, fun a r hr => ?_, fun a r hr g hgr j hj => ?_, ?_⟩
  · rw [blockOf_own] at z
    have q := (own_lt h.mor j e).1
    cases P with
    | none => cases z
    | some x =>
      obtain ⟨g, e1, e2⟩ := hall (by simp)
      rw [e1] at z
      have z : some g = some j := z
      have := Option.some.inj z
      omega
  · have e : U.take (i + 1) = U.take i ++ [y] := by rw [List.take_add_one, hy]; rfl
    rw [e]
    unfold slv at ho ⊢
    rw [List.map_append]
    exact ho
  · obtain ⟨y2, h2, e1, e2, e3, e4⟩ := h.at_ a r hr
    refine ⟨y2, h2, ?_, e2, fun z => e3 ?_, e4⟩
    · rw [e1]
      by_cases h1 : a < i
      · rw [if_pos h1, if_pos (by omega)]
      · by_cases h2 : a = i
        · rw [if_neg h1, if_pos h2, if_pos (by omega)]
        · rw [if_neg h1, if_neg h2, if_neg (by omega)]
          split <;> rfl
    · exact .inl (by omega)
  · refine KG.cell (h.rd a r hr g hgr j hj) (fun z => ?_)
    have q := (own_lt h.mor g z).1
    have q2 := hlt a r hr g (by rw [hgr]; rfl)
    omega
  · refine h.kept.trans KG (fun j hj z => ?_)
    have q := (own_lt h.mor j z).1
    omega
end Go.Proofs.YtbangbobfeflcaaGreatDoor
