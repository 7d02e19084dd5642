import Derived.Test.YtodmakcklacbfaaPOne
namespace Go.Proofs.Ytodmakcklacbfaa
open Go.RowKit Go.Shelf Go.Lib Go.Sort

/-- The tag of the call of a number. -/
def tagAt (ms : List Cm) (r : Nat) : Int × Int := match ms[r]? with | some m => (m.tx, m.ty) | none => (0, 0)
theorem tagAt_of {ms : List Cm} {r : Nat} {m : Cm} (h : ms[r]? = some m) : tagAt ms r = (m.tx, m.ty) := by unfold tagAt; rw [h]
/-- How many from the first on have its tag. -/
def alikeN (ms : List Cm) : List Nat → Nat
  | [] => 0
  | r :: L => 1 + (L.takeWhile fun x => decide (tagAt ms x = tagAt ms r)).length
theorem takeWhile_len {α : Type} (p : α → Bool) : ∀ (L : List α) (t : Nat), t ≤ L.length → (∀ x ∈ L.take t, p x = true) → (∀ x, L[t]? = some x → p x = false) → (L.takeWhile p).length = t
  | [], t, h, _, _ => by simp at h; simp [h]
  | a :: L, 0, _, _, h => by
    have := h a rfl
    rw [List.takeWhile_cons_of_neg (by rw [this]; decide)]
    rfl
  | a :: L, t + 1, h, h1, h2 => by
    rw [List.takeWhile_cons_of_pos (h1 a (by simp))]
    rw [List.length_cons, takeWhile_len p L t (by simpa using h) (fun x hx => h1 x (by rw [List.take_succ_cons]; exact List.mem_cons_of_mem _ hx)) (fun x hx => h2 x (by simpa using hx))]
theorem alike_eq {ms : List Cm} {R : List Nat} {s : Nat} (lt : ∀ r ∈ R, r < ms.length) (h : Alike ms R s) : alikeN ms R = s := by
  obtain ⟨s0, sl, r0, m0, hr0, hm0, h1, h2⟩ := h
  cases R with
  | nil => simp at hr0
  | cons r L =>
    have e : r = r0 := by simpa using hr0
    subst e
    obtain ⟨t, rfl⟩ : ∃ t, s = t + 1 := ⟨s - 1, by omega⟩
    show 1 + (L.takeWhile fun x => decide (tagAt ms x = tagAt ms r)).length = t + 1
    rw [takeWhile_len _ L t (by simpa using sl) (fun x hx => ?_) (fun x hx => ?_)]
    · omega
    · have hxn := lt x (List.mem_cons_of_mem _ (List.mem_of_mem_take hx))
      have hm : ms[x]? = some ms[x] := List.getElem?_eq_getElem hxn
      have := h1 x (by rw [List.take_succ_cons]; exact List.mem_cons_of_mem _ hx) _ hm
      rw [tagAt_of hm, tagAt_of hm0, this.1, this.2]
      simp
    · have hxn := lt x (List.mem_cons_of_mem _ (List.mem_of_getElem? hx))
      have hm : ms[x]? = some ms[x] := List.getElem?_eq_getElem hxn
      have := h2 x _ (by simpa using hx) hm
      rw [tagAt_of hm, tagAt_of hm0]
      simpa using this
/-- The order by tags, from what is left, what is silent and what stands already. -/
def runX (ms : List Cm) : Nat → List Nat → (Int → Option Int) → List Nat → Option (List Nat)
  | 0, _, _, acc => some acc
  | f + 1, L, M, acc => match L with
    | [] => some acc
    | r :: _ => match oneX ms (L.take (alikeN ms L)) M (tagAt ms r).1 (tagAt ms r).2 with
      | none => none
      | some P => runX ms f (L.drop (alikeN ms L)) (putsX ms (L.take (alikeN ms L)) M (tagAt ms r).2).2 (acc ++ P)
theorem runX_nil {ms : List Cm} {f : Nat} {M : Int → Option Int} {acc : List Nat} : runX ms f [] M acc = some acc := by cases f <;> rfl
theorem runX_step {ms : List Cm} {f : Nat} {L : List Nat} {M : Int → Option Int} {acc : List Nat} {s r0 : Nat} {m0 : Cm} (lt : ∀ r ∈ L, r < ms.length) (h : Alike ms L s) (hr : L[0]? = some r0) (hm : ms[r0]? = some m0) :
    runX ms (f + 1) L M acc = match oneX ms (L.take s) M m0.tx m0.ty with | none => none | some P => runX ms f (L.drop s) (putsX ms (L.take s) M m0.ty).2 (acc ++ P) := by
  have e := alike_eq lt h
  cases L with
  | nil => simp at hr
  | cons r L =>
    have er : r = r0 := by simpa using hr
    subst er
    have et := tagAt_of hm
    show (match oneX ms ((r :: L).take (alikeN ms (r :: L))) M (tagAt ms r).1 (tagAt ms r).2 with | none => none | some P => runX ms f ((r :: L).drop (alikeN ms (r :: L))) (putsX ms ((r :: L).take (alikeN ms (r :: L))) M (tagAt ms r).2).2 (acc ++ P)) = _
    rw [e, et]
theorem putsX_nn {ms : List Cm} {R : List Nat} {M : Int → Option Int} {ty : Int} (h : ∀ x l, M x = some l → 0 ≤ l) : ∀ x l, (putsX ms R M ty).2 x = some l → 0 ≤ l := by
  intro x l hx
  unfold putsX at hx
  split at hx
  · exact h x l hx
  · split at hx
    · split at hx
      · have hx : delM M ty x = some l := hx
        unfold delM at hx
        split at hx
        · cases hx
        · exact h x l hx
      · exact h x l hx
    · exact h x l hx
theorem oneX_len {ms : List Cm} {R P : List Nat} {M : Int → Option Int} {tx ty : Int} (h : oneX ms R M tx ty = some P) : P.length ≤ 1 + R.length := by
  unfold oneX at h
  split at h
  · have h := Option.some.inj h
    subst h
    simp
  · split at h
    · cases h
    · rename_i z
      have h := Option.some.inj h
      subst h
      have h1 : (putsX ms R M ty).1.length = 1 := by
        by_cases q : (putsX ms R M ty).1.length = 1
        · exact q
        · exact absurd (.inl q) z
      have h2 : (getsOf ms R).length ≤ R.length := List.length_filter_le _ _
      rw [List.length_append]
      omega
/-- The orders of both sorts. -/
def SortOf (ms : List Cm) (P : Cm → Bool) (Lt : Nat → Nat → Prop) (R : List Nat) : Prop := R.Perm (numsK P ms ms.length) ∧ R.Pairwise (fun x y => ¬ Lt y x)
def absB (m : Cm) : Bool := !m.put && decide (0 ≤ m.to) && decide (m.st = 76)
/-- What ByTags tells. -/
def ByT (ms : List Cm) (L : List Nat) (e : Int) : Prop := (e = 1 ∧ ¬ FitL ms ∧ L = []) ∨ (FitL ms ∧ ∃ RA RT, SortOf ms absB (FromLt ms) RA ∧ SortOf ms Cm.tells (TagLt ms) RT ∧ ((e = 81 ∧ runX ms RT.length RT (silM ms ms.length) RA = none ∧ L = []) ∨ (e = 0 ∧ runX ms RT.length RT (silM ms ms.length) RA = some L)))
structure ByQ (w : World) (ms : List Cm) (q : Option Addr) (k c : Nat) (e : Int) (w' : World) : Prop where
  ans : ∃ L, ByT ms L e ∧ NRow w.heap.size w' q k c L
  kept : Kept (fun _ => False) w w'
def RetY (Q : Option Addr → Nat → Nat → Int → World → Prop) (o : Ending) (w : World) : Prop := ∃ (q : Option Addr) (k c : Nat) (e : Int), o = .returned (.tuple #[.slice q k c, .int .i64 e]) ∧ Q q k c e w
theorem RetY.mk {Q : Option Addr → Nat → Nat → Int → World → Prop} {o : Ending} {w : World} (q : Option Addr) (k c : Nat) (e : Int) (h : o = .returned (.tuple #[.slice q k c, .int .i64 e])) (hq : Q q k c e w) : RetY Q o w := ⟨q, k, c, e, h, hq⟩
theorem IRd.off {S : Nat → Prop} {w w' : World} {q : Option Addr} {k kc : Nat} {R : List Int} (h : IRd w q k kc R) (K : Kept S w w') (hn : ∀ j, blockOf q = some j → ¬ S j) : IRd w' q k kc R := by
  refine ⟨h.len, h.room, h.small, fun h0 => ?_⟩
  obtain ⟨b, off, e, hc⟩ := h.cells h0
  exact ⟨b, off, e, fun i x hx => K.cell (hc i x hx) (hn b (by rw [e]; rfl))⟩
theorem IRd.take {w : World} {q : Option Addr} {k kc : Nat} {R : List Int} (h : IRd w q k kc R) {s : Nat} (hs : s ≤ k) : IRd w q s kc (R.take s) := by
  refine ⟨by rw [List.length_take, h.len]; omega, Nat.le_trans hs h.room, h.small, fun h0 => ?_⟩
  obtain ⟨b, off, e, hc⟩ := h.cells (by omega)
  refine ⟨b, off, e, fun i x hx => hc i x ?_⟩
  rw [List.getElem?_take] at hx
  split at hx
  · exact hx
  · cases hx
theorem IRd.drop {w : World} {b off k kc : Nat} {R : List Int} (h : IRd w (some ⟨b, off, none⟩) k kc R) {s : Nat} (hs : s ≤ k) : IRd w (some ⟨b, off + s, none⟩) (k - s) (kc - s) (R.drop s) := by
  have h1 := h.room
  have h2 := h.small
  refine ⟨by rw [List.length_drop, h.len], by omega, by omega, fun h0 => ⟨b, off + s, rfl, fun i x hx => ?_⟩⟩
  obtain ⟨b', off', e, hc⟩ := h.cells (by omega)
  cases e
  rw [List.getElem?_drop] at hx
  have := hc (s + i) x hx
  rw [show off + s + i = off + (s + i) by omega]
  exact this
/-- The state of ByTags between two tags. -/
structure BS (w : World) (p0 : Option Addr) (n c0 : Nat) (mb bd CB : Nat) (p1 : Option Addr) (k1 c1 : Nat) (acc : List Nat) (ql : Option Addr) (kl cl : Nat) (L : List Nat) (M : Int → Option Int) (wr : World) : Prop where
  ord : NRow w.heap.size wr p1 k1 c1 acc
  left : IRd wr ql kl cl (L.map fun x : Nat => (x : Int))
  map : IsI wr mb M bd
  ap : ∀ j, blockOf p1 = some j → j ≠ mb ∧ j ≠ CB ∧ ¬ blockOf ql = some j
  al : ∀ j, blockOf ql = some j → j ≠ mb ∧ j < wr.heap.size
  kept : Kept (fun _ => False) w wr
  cb : wr.cell? ⟨CB, 0, none⟩ = some (.slice p0 n c0)
  ne : CB ≠ mb ∧ CB < wr.heap.size ∧ w.heap.size ≤ mb ∧ mb < wr.heap.size
theorem BS.k0 {w : World} {p0 : Option Addr} {n c0 mb bd CB : Nat} {p1 : Option Addr} {k1 c1 : Nat} {acc : List Nat} {ql : Option Addr} {kl cl : Nat} {L : List Nat} {M : Int → Option Int} {wr w' : World} (h : BS w p0 n c0 mb bd CB p1 k1 c1 acc ql kl cl L M wr) (K : Kept (fun _ => False) wr w') : BS w p0 n c0 mb bd CB p1 k1 c1 acc ql kl cl L M w' := by
  have hs := K.size
  refine ⟨h.ord.k0 K, h.left.k0 K, h.map.kept K (fun z => z), h.ap, fun j z => ⟨(h.al j z).1, Nat.lt_of_lt_of_le (h.al j z).2 hs⟩, h.kept.trans K (fun _ _ z => z), K.cell h.cb (fun z => z), h.ne.1, Nat.lt_of_lt_of_le h.ne.2.1 hs, h.ne.2.2.1, Nat.lt_of_lt_of_le h.ne.2.2.2 hs⟩
/-- One tag more. -/
theorem BS.one {w : World} {p0 : Option Addr} {n c0 mb bd CB : Nat} {p1 : Option Addr} {k1 c1 : Nat} {acc : List Nat} {b off kl cl : Nat} {L : List Nat} {M M2 : Int → Option Int} {wr w2 w9 : World} (h : BS w p0 n c0 mb bd CB p1 k1 c1 acc (some ⟨b, off, none⟩) kl cl L M wr) (K : Kept (fun j => j = mb) wr w2) (im : IsI w2 mb M2 bd) {s : Nat} (hs : s ≤ kl) {P : List Nat} {kp : Nat} (lp : P.length = kp) {p9 : Option Addr} {c9 : Nat} (ho : w9.ownsRow w.heap.size 3 1 (.slice p9 (k1 + kp) c9) (k1 + kp) (intsN acc ++ intsN P)) (hg : w2.grownBy w9 (Value.slice p1 k1 c1).ownBlock) (hn : (Value.slice p9 (k1 + kp) c9).ownBlock = (Value.slice p1 k1 c1).ownBlock ∨ ((Value.slice p9 (k1 + kp) c9).ownBlock = some w2.heap.size ∧ w2.grownBy w9 none)) :
    BS w p0 n c0 mb bd CB p9 (k1 + kp) c9 (acc ++ P) (some ⟨b, off + s, none⟩) (kl - s) (cl - s) (L.drop s) M2 w9 := by
  rw [blockOf_own, blockOf_own] at hn
  have KG : Kept (fun j => blockOf p1 = some j) w2 w9 := (Kept.refl _ w2).grown hg (fun j _ z => by rw [blockOf_own] at z; exact z)
  have hb := h.al b rfl
  have s1 := K.size
  have s2 := KG.size
  have nb : ¬ blockOf p1 = some b := fun z => (h.ap b z).2.2 rfl
  obtain ⟨n1, n2, n3, n4⟩ := h.ne
  refine ⟨⟨?_, ?_⟩, ?_, im.kept KG (fun z => (h.ap mb z).1 rfl), fun j z => ?_, fun j z => ?_, ?_, KG.cell (K.cell h.cb h.ne.1) (fun z => (h.ap CB z).2.1 rfl), h.ne.1, by omega, h.ne.2.2.1, by omega⟩
  · rw [List.length_append, h.ord.len, lp]
  · rw [intsN_append]
    exact ho
  · rw [List.map_drop]
    exact ((h.left.off K (fun j z => (h.al j z).1)).off KG (fun j z y => by
      have z : b = j := Option.some.inj z
      subst z
      exact nb y)).drop hs
  · rcases hn with hn | ⟨hn, _⟩
    · rw [hn] at z
      refine ⟨(h.ap j z).1, (h.ap j z).2.1, fun y => ?_⟩
      have y : b = j := Option.some.inj y
      subst y
      exact nb z
    · rw [hn] at z
      have z : w2.heap.size = j := Option.some.inj z
      refine ⟨by omega, by omega, fun y => ?_⟩
      have y : b = j := Option.some.inj y
      omega
  · have z : b = j := Option.some.inj z
    subst z
    exact ⟨hb.1, by omega⟩
  · refine (h.kept.trans K (fun j hj z => ?_)).trans KG (fun j hj z => ?_)
    · have z : j = mb := z
      omega
    · have := (own_lt h.ord.row j z).1
      omega
end Go.Proofs.Ytodmakcklacbfaa
