import Derived.Test.YtbangbobfeflcaaGreatDoorKStJ
namespace Go.Proofs.YtbangbobfeflcaaGreatDoor
open Go.RowKit 

/-- A list's mark. -/
def mrk (a : Nat) : Value := .int .i64 (-100 - (a : Int))
/-- Rows, of which the first can still be read and the others are owned, written over one after another. -/
structure OU (b0 : Nat) (ty : TypeId) (s o : Nat) (W : World) (R : List Rw) (d k j : Nat) : Prop where
  rd : ∀ (a : Nat) (r : Rw), a < d → R[a]? = some r → ∀ i, i < r.n → ∃ g, r.p = some ⟨g, 0, none⟩ ∧ W.cell? ⟨g, i * s + o, none⟩ = some (mrk a)
  own : ∀ (a : Nat) (r : Rw), d ≤ a → R[a]? = some r → ∃ xs, W.ownsRow b0 ty s (.slice r.p r.n r.c) r.n xs ∧ (a < k → ∀ i, i < r.n → xs[i * s + o]? = some (mrk a)) ∧ (a = k → ∀ i, i < j → xs[i * s + o]? = some (mrk a))
def RNe (R : List Rw) : Prop := ∀ (m n : Nat) (r s : Rw), m ≠ n → R[m]? = some r → R[n]? = some s → ∀ b, blockOf r.p = some b → ¬ blockOf s.p = some b
theorem OU.off {b0 : Nat} {ty : TypeId} {s o : Nat} {S : Nat → Prop} {W W' : World} {R : List Rw} {d k j : Nat} (h : OU b0 ty s o W R d k j) (K : Kept S W W') (hS : ∀ (a : Nat) (r : Rw), R[a]? = some r → ∀ b, blockOf r.p = some b → ¬ S b) : OU b0 ty s o W' R d k j :=
  ⟨fun a r ha hr i hi => by
    obtain ⟨g, e, c⟩ := h.rd a r ha hr i hi
    exact ⟨g, e, K.cell c (hS a r hr g (by rw [e]; rfl))⟩, fun a r ha hr => by
    obtain ⟨xs, o, p⟩ := h.own a r ha hr
    exact ⟨xs, K.owns o (fun b z => hS a r hr b (by rw [blockOf_own] at z; exact z)), p⟩⟩
theorem OU.set {b0 : Nat} {ty : TypeId} {s o : Nat} {W : World} {R : List Rw} {d k j : Nat} (h : OU b0 ty s o W R d k j) (ne : RNe R) (hd : d ≤ k) {r : Rw} (hr : R[k]? = some r) (hj : j < r.n) (hs : o < s) : ∃ g, r.p = some ⟨g, 0, none⟩ ∧ (∃ v, W.cell? ⟨g, j * s + o, none⟩ = some v) ∧ W.frozen? ⟨g, j * s + o, none⟩ = false ∧ OU b0 ty s o (W.setCell ⟨g, j * s + o, none⟩ (mrk k)) R d k (j + 1) ∧ ∃ cs, W.heap[g]? = some (.cells cs ty (0, 0)) := by
  obtain ⟨xs, ow, m1, m2⟩ := h.own k r hd hr
  obtain ⟨g, ep⟩ : ∃ g, r.p = some ⟨g, 0, none⟩ := by
    rcases ow.2 with ⟨_, z⟩ | ⟨g, cap, cur, z, _⟩
    · omega
    · have z : Value.slice r.p r.n r.c = .slice (some ⟨g, 0, none⟩) r.n cap := z
      injection z with z1 _ _
      exact ⟨g, z1⟩
  have lx : j * s + o < xs.length := by
    rw [ow.1]
    have q := Nat.mul_le_mul_right s (show j + 1 ≤ r.n from hj)
    rw [Nat.succ_mul] at q
    omega
  obtain ⟨cs, hcs⟩ := own_type ow g (by rw [ep]; rfl)
  have ow2 := ow
  rw [ep] at ow2
  have K := (Kept.refl (fun b => b = g) W).setCell (p := ⟨g, j * s + o, none⟩) (fun _ => rfl) (mrk k)
  refine ⟨g, ep, ⟨xs[j * s + o], ?_⟩, soft_blk hcs _, ⟨fun a t ha ht i hi => ?_, fun a t ha ht => ?_⟩, cs, hcs⟩
  · have q := ow2.cells (g := g) rfl (j * s + o) _ (List.getElem?_eq_getElem lx)
    rw [Addr.add_none, Nat.zero_add] at q
    exact q
  · obtain ⟨g', e, c⟩ := h.rd a t ha ht i hi
    refine ⟨g', e, K.cell c (fun z => ?_)⟩
    have z : g' = g := z
    exact ne a k t r (by omega) ht hr g' (by rw [e]; rfl) (by rw [ep, z]; rfl)
  · by_cases ha2 : a = k
    · subst ha2
      rw [hr] at ht
      obtain rfl := Option.some.inj ht
      refine ⟨xs.set (j * s + o) (mrk a), ?_, fun z => absurd z (Nat.lt_irrefl _), fun _ i hi => ?_⟩
      · rw [ep]
        exact owns_setN ow2 _ _
      · by_cases hij : i = j
        · subst hij
          exact List.getElem?_set_self lx
        · rw [List.getElem?_set_ne (fun z => hij (Nat.eq_of_mul_eq_mul_right (show 0 < s by omega) (by omega)))]
          exact m2 rfl i (by omega)
    · obtain ⟨ys, oy, n1, n2⟩ := h.own a t ha ht
      refine ⟨ys, K.owns oy (fun b z y => ?_), n1, fun z => absurd z ha2⟩
      have y : b = g := y
      rw [blockOf_own] at z
      exact ne a k t r ha2 ht hr b z (by rw [ep, y]; rfl)
theorem OU.next {b0 : Nat} {ty : TypeId} {s o : Nat} {W : World} {R : List Rw} {d k : Nat} {r : Rw} (h : OU b0 ty s o W R d k r.n) (hr : R[k]? = some r) : OU b0 ty s o W R d (k + 1) 0 := by
  refine ⟨h.rd, fun a t ha ht => ?_⟩
  obtain ⟨xs, ow, m1, m2⟩ := h.own a t ha ht
  refine ⟨xs, ow, fun z i hi => ?_, fun _ i hi => absurd hi (Nat.not_lt_zero _)⟩
  by_cases q : a = k
  · subst q
    rw [hr] at ht
    obtain rfl := Option.some.inj ht
    exact m2 rfl i hi
  · exact m1 (by omega) i hi
theorem stillN {W W' : World} {b0 : Nat} {ty : TypeId} {s n c c9 : Nat} {p p9 : Option Addr} {X E : List Value} {v : Value} {j : Nat} (h : W.ownsRow b0 ty s (.slice p n c) n X) (hv : X[j]? = some v) (ho : W'.ownsRow b0 ty s (.slice p9 (n + 1) c9) (n + 1) (X ++ E)) (hn : (Value.slice p9 (n + 1) c9).ownBlock = (Value.slice p n c).ownBlock ∨ ((Value.slice p9 (n + 1) c9).ownBlock = some W.heap.size ∧ W.grownBy W' none)) : ∃ g, p = some ⟨g, 0, none⟩ ∧ W'.cell? ⟨g, j, none⟩ = some v := by
  have hj := (List.getElem?_eq_some_iff.1 hv).1
  rcases h.2 with ⟨_, z⟩ | ⟨g, cap, cur, z, _⟩
  · have := h.1
    rw [z, Nat.zero_mul] at this
    omega
  · have z : Value.slice p n c = .slice (some ⟨g, 0, none⟩) n cap := z
    injection z with z1 _ _
    subst z1
    refine ⟨g, rfl, ?_⟩
    have old : W.cell? ⟨g, j, none⟩ = some v := by
      have q := h.cells (g := g) rfl j v hv
      rw [Addr.add_none, Nat.zero_add] at q
      exact q
    rcases hn with q | ⟨_, gn⟩
    · rw [blockOf_own, blockOf_own] at q
      obtain ⟨g9, e9⟩ : ∃ g9, p9 = some ⟨g9, 0, none⟩ := by
        rcases ho.2 with ⟨_, z⟩ | ⟨g', cap, cur, z, _⟩
        · omega
        · injection z with z1 _ _
          exact ⟨g', z1⟩
      rw [e9] at q ho
      obtain rfl : g9 = g := by
        have q : some g9 = some g := q
        exact Option.some.inj q
      have q := ho.cells (g := g9) rfl j v (by rw [List.getElem?_append_left hj]; exact hv)
      rw [Addr.add_none, Nat.zero_add] at q
      exact q
    · exact ((Kept.refl (fun _ => False) W).grown gn (fun j _ z => by simp at z)).cell old (fun z => z)
theorem OU.app {b0 : Nat} {ty : TypeId} {s o : Nat} {W W' : World} {R : List Rw} {k kk : Nat} (h : OU b0 ty s o W R k kk 0) (ne : RNe R) {r : Rw} (hr : R[k]? = some r) {xs E : List Value} (ow : W.ownsRow b0 ty s (.slice r.p r.n r.c) r.n xs) (mk : ∀ i, i < r.n → xs[i * s + o]? = some (mrk k)) {p9 : Option Addr} {c9 : Nat} (ho : W'.ownsRow b0 ty s (.slice p9 (r.n + 1) c9) (r.n + 1) (xs ++ E)) (hg : W.grownBy W' (Value.slice r.p r.n r.c).ownBlock) (hn : (Value.slice p9 (r.n + 1) c9).ownBlock = (Value.slice r.p r.n r.c).ownBlock ∨ ((Value.slice p9 (r.n + 1) c9).ownBlock = some W.heap.size ∧ W.grownBy W' none)) : OU b0 ty s o W' R (k + 1) kk 0 := by
  have KG := kgr hg
  refine ⟨fun a t ha ht i hi => ?_, fun a t ha ht => ?_⟩
  · by_cases q : a = k
    · subst q
      rw [hr] at ht
      obtain rfl := Option.some.inj ht
      exact stillN ow (mk i hi) ho hn
    · obtain ⟨g, e, c⟩ := h.rd a t (by omega) ht i hi
      exact ⟨g, e, KG.cell c (fun z => ne a k t r q ht hr g (by rw [e]; rfl) z)⟩
  · obtain ⟨ys, oy, n1, n2⟩ := h.own a t (by omega) ht
    exact ⟨ys, KG.owns oy (fun b z y => by rw [blockOf_own] at z; exact ne a k t r (by omega) ht hr b z y), n1, n2⟩
def RBk (Rc Re : List Rw) (b : Nat) : Prop := (∃ (a : Nat) (r : Rw), Rc[a]? = some r ∧ blockOf r.p = some b) ∨ ∃ (a : Nat) (r : Rw), Re[a]? = some r ∧ blockOf r.p = some b
/-- What is known of the rows ahead. -/
structure OSt (Rc Re : List Rw) : Prop where
  nc : RNe Rc
  ne : RNe Re
  ce : ∀ (a a' : Nat) (r r' : Rw), Rc[a]? = some r → Re[a']? = some r' → ∀ b, blockOf r.p = some b → ¬ blockOf r'.p = some b
  bc : ∀ (a : Nat) (r : Rw), Rc[a]? = some r → r.n ≤ 1500000000000
  be : ∀ (a : Nat) (r : Rw), Re[a]? = some r → r.n ≤ 1500000000000
/-- Lists of calls and lists of events, written over. -/
structure OW (b0 : Nat) (w W : World) (Pc : Option Addr) (nc Cc : Nat) (Rc : List Rw) (Pe : Option Addr) (n Ce : Nat) (Re : List Rw) (dc kc jc de ke je : Nat) : Prop where
  ac : W.ownsRow b0 25 1 (.slice Pc nc Cc) nc (slv Rc)
  ae : W.ownsRow b0 22 1 (.slice Pe n Ce) n (slv Re)
  c : OU b0 58 11 0 W Rc dc kc jc
  e : OU b0 39 9 1 W Re de ke je
  kept : Kept (RBk Rc Re) w W
theorem OW.k0 {b0 : Nat} {w W W' : World} {Pc : Option Addr} {nc Cc : Nat} {Rc : List Rw} {Pe : Option Addr} {n Ce : Nat} {Re : List Rw} {dc kc jc de ke je : Nat} (h : OW b0 w W Pc nc Cc Rc Pe n Ce Re dc kc jc de ke je) (K : Kept (fun _ => False) W W') : OW b0 w W' Pc nc Cc Rc Pe n Ce Re dc kc jc de ke je :=
  ⟨K.owns h.ac (fun _ _ z => z), K.owns h.ae (fun _ _ z => z), h.c.off K (fun _ _ _ _ _ z => z), h.e.off K (fun _ _ _ _ _ z => z), h.kept.trans K (fun _ _ z => z.elim)⟩
theorem rows_at {b0 : Nat} {ty : TypeId} {W : World} {P : Option Addr} {n C : Nat} {R : List Rw} (h : W.ownsRow b0 ty 1 (.slice P n C) n (slv R)) {a : Nat} (ha : a < n) : ∃ g r, P = some ⟨g, 0, none⟩ ∧ R[a]? = some r ∧ W.cell? ⟨g, a, none⟩ = some (.slice r.p r.n r.c) := by
  have hl : R.length = n := by
    have q := h.1
    unfold slv at q
    rw [List.length_map] at q
    omega
  obtain ⟨r, hr⟩ : ∃ r, R[a]? = some r := ⟨_, List.getElem?_eq_getElem (by rw [hl]; exact ha)⟩
  rcases h.2 with ⟨_, z⟩ | ⟨g, cap, cur, z, _⟩
  · omega
  · have z : Value.slice P n C = .slice (some ⟨g, 0, none⟩) n cap := z
    injection z with z1 _ _
    subst z1
    have q := h.cells (g := g) rfl a _ (slv_at hr)
    rw [Addr.add_none, Nat.zero_add] at q
    exact ⟨g, r, rfl, hr, q⟩
/-- A list of slices stays where a row of another type changes. -/
theorem slv_off {b0 : Nat} {ty t' : TypeId} {S : Nat → Prop} {W W' : World} {P : Option Addr} {n C : Nat} {xs : List Value} (h : W.ownsRow b0 ty 1 (.slice P n C) n xs) (K : Kept S W W') (hS : ∀ b, S b → ∃ cs, W.heap[b]? = some (.cells cs t' (0, 0))) (ht : ty ≠ t') : W'.ownsRow b0 ty 1 (.slice P n C) n xs := K.owns h (fun b z y => by
  rw [blockOf_own] at z
  obtain ⟨c1, e1⟩ := own_type h b z
  obtain ⟨c2, e2⟩ := hS b y
  rw [e1] at e2
  simp at e2
  exact ht e2.2)
theorem OW.setC {b0 : Nat} {w W : World} {Pc : Option Addr} {nc Cc : Nat} {Rc : List Rw} {Pe : Option Addr} {n Ce : Nat} {Re : List Rw} {dc kc jc de ke je : Nat} (h : OW b0 w W Pc nc Cc Rc Pe n Ce Re dc kc jc de ke je) (st : OSt Rc Re) (hd : dc ≤ kc) {r : Rw} (hr : Rc[kc]? = some r) (hj : jc < r.n) : ∃ g, r.p = some ⟨g, 0, none⟩ ∧ (∃ v, W.cell? ⟨g, jc * 11, none⟩ = some v) ∧ W.frozen? ⟨g, jc * 11, none⟩ = false ∧ OW b0 w (W.setCell ⟨g, jc * 11, none⟩ (mrk kc)) Pc nc Cc Rc Pe n Ce Re dc kc (jc + 1) de ke je := by
  obtain ⟨g, ep, hv, hf, ho, cs, hcs⟩ := h.c.set st.nc hd hr hj (by omega)
  have K := (Kept.refl (fun b => b = g) W).setCell (p := ⟨g, jc * 11, none⟩) (fun _ => rfl) (mrk kc)
  refine ⟨g, ep, hv, hf, slv_off h.ac K (fun b z => ⟨cs, by have z : b = g := z; rw [z]; exact hcs⟩) (by decide), slv_off h.ae K (fun b z => ⟨cs, by have z : b = g := z; rw [z]; exact hcs⟩) (by decide), ho, h.e.off K (fun a t ht b z y => ?_), h.kept.setCell (p := ⟨g, jc * 11, none⟩) (fun _ => .inl ⟨kc, r, hr, by rw [ep]; rfl⟩) _⟩
  have y : b = g := y
  exact st.ce kc a r t hr ht g (by rw [ep]; rfl) (by rw [← y]; exact z)
theorem OW.setE {b0 : Nat} {w W : World} {Pc : Option Addr} {nc Cc : Nat} {Rc : List Rw} {Pe : Option Addr} {n Ce : Nat} {Re : List Rw} {dc kc jc de ke je : Nat} (h : OW b0 w W Pc nc Cc Rc Pe n Ce Re dc kc jc de ke je) (st : OSt Rc Re) (hd : de ≤ ke) {r : Rw} (hr : Re[ke]? = some r) (hj : je < r.n) : ∃ g, r.p = some ⟨g, 0, none⟩ ∧ (∃ v, W.cell? ⟨g, je * 9 + 1, none⟩ = some v) ∧ W.frozen? ⟨g, je * 9 + 1, none⟩ = false ∧ OW b0 w (W.setCell ⟨g, je * 9 + 1, none⟩ (mrk ke)) Pc nc Cc Rc Pe n Ce Re dc kc jc de ke (je + 1) := by
  obtain ⟨g, ep, hv, hf, ho, cs, hcs⟩ := h.e.set st.ne hd hr hj (by omega)
  have K := (Kept.refl (fun b => b = g) W).setCell (p := ⟨g, je * 9 + 1, none⟩) (fun _ => rfl) (mrk ke)
  refine ⟨g, ep, hv, hf, slv_off h.ac K (fun b z => ⟨cs, by have z : b = g := z; rw [z]; exact hcs⟩) (by decide), slv_off h.ae K (fun b z => ⟨cs, by have z : b = g := z; rw [z]; exact hcs⟩) (by decide), h.c.off K (fun a t ht b z y => ?_), ho, h.kept.setCell (p := ⟨g, je * 9 + 1, none⟩) (fun _ => .inr ⟨ke, r, hr, by rw [ep]; rfl⟩) _⟩
  have y : b = g := y
  exact st.ce a ke t r ht hr b z (by rw [ep, y]; rfl)
theorem OW.appC {b0 : Nat} {w W W' : World} {Pc : Option Addr} {nc Cc : Nat} {Rc : List Rw} {Pe : Option Addr} {n Ce : Nat} {Re : List Rw} {k kk de ke je : Nat} (h : OW b0 w W Pc nc Cc Rc Pe n Ce Re k kk 0 de ke je) (st : OSt Rc Re) {r : Rw} (hr : Rc[k]? = some r) {xs E : List Value} (ow : W.ownsRow b0 58 11 (.slice r.p r.n r.c) r.n xs) (mk : ∀ i, i < r.n → xs[i * 11 + 0]? = some (mrk k)) {p9 : Option Addr} {c9 : Nat} (ho : W'.ownsRow b0 58 11 (.slice p9 (r.n + 1) c9) (r.n + 1) (xs ++ E)) (hg : W.grownBy W' (Value.slice r.p r.n r.c).ownBlock) (hn : (Value.slice p9 (r.n + 1) c9).ownBlock = (Value.slice r.p r.n r.c).ownBlock ∨ ((Value.slice p9 (r.n + 1) c9).ownBlock = some W.heap.size ∧ W.grownBy W' none)) : OW b0 w W' Pc nc Cc Rc Pe n Ce Re (k + 1) kk 0 de ke je := by
  have KG := kgr hg
  exact ⟨slv_off h.ac KG (fun b z => own_type ow b z) (by decide), slv_off h.ae KG (fun b z => own_type ow b z) (by decide), h.c.app st.nc hr ow mk ho hg hn, h.e.off KG (fun a t ht b z y => st.ce k a r t hr ht b y z), h.kept.trans KG (fun b _ z => .inl ⟨k, r, hr, z⟩)⟩
theorem OW.appE {b0 : Nat} {w W W' : World} {Pc : Option Addr} {nc Cc : Nat} {Rc : List Rw} {Pe : Option Addr} {n Ce : Nat} {Re : List Rw} {k kk dc kc jc : Nat} (h : OW b0 w W Pc nc Cc Rc Pe n Ce Re dc kc jc k kk 0) (st : OSt Rc Re) {r : Rw} (hr : Re[k]? = some r) {xs E : List Value} (ow : W.ownsRow b0 39 9 (.slice r.p r.n r.c) r.n xs) (mk : ∀ i, i < r.n → xs[i * 9 + 1]? = some (mrk k)) {p9 : Option Addr} {c9 : Nat} (ho : W'.ownsRow b0 39 9 (.slice p9 (r.n + 1) c9) (r.n + 1) (xs ++ E)) (hg : W.grownBy W' (Value.slice r.p r.n r.c).ownBlock) (hn : (Value.slice p9 (r.n + 1) c9).ownBlock = (Value.slice r.p r.n r.c).ownBlock ∨ ((Value.slice p9 (r.n + 1) c9).ownBlock = some W.heap.size ∧ W.grownBy W' none)) : OW b0 w W' Pc nc Cc Rc Pe n Ce Re dc kc jc (k + 1) kk 0 := by
  have KG := kgr hg
  exact ⟨slv_off h.ac KG (fun b z => own_type ow b z) (by decide), slv_off h.ae KG (fun b z => own_type ow b z) (by decide), h.c.off KG (fun a t ht b z y => st.ce a k t r ht hr b z y), h.e.app st.ne hr ow mk ho hg hn, h.kept.trans KG (fun b _ z => .inr ⟨k, r, hr, z⟩)⟩
end Go.Proofs.YtbangbobfeflcaaGreatDoor
