import Derived.Test.YtbangbobfeflcaaGreatDoorGen
import Derived.Maps.RangeWalk
import Derived.Maps.OwnSet
namespace Go.Proofs.YtbangbobfeflcaaGreatDoor
open Go.RowKit 

/-- What is known of a kind of maps: its keys, its elements. -/
structure MK {κ ε : Type} (T K E : TypeId) (kv : κ → Value) (kl : κ → Lit) (KF : κ → Prop) (ev : ε → Value) (z : ε) (RD : Value → Option (DataW Value × List MemPlace)) : Prop where
  law : Maps.Keyed Tryz.prog K
  und : Tryz.prog.underlying T = some (.map K E)
  key : ∀ k, KF k → keyOf Tryz.prog K (kv k) = some (kl k)
  inv : ∀ v l, keyOf Tryz.prog K v = some l → ∃ k, v = kv k ∧ KF k ∧ l = kl k
  inj : ∀ k k', KF k → KF k' → kl k = kl k' → k = k'
  kvi : ∀ k k', kv k = kv k' → k = k'
  rd : ∀ e, RD (ev e) = some (.held (ev e), [])
  rdi : ∀ v y, RD v = some y → (∃ e, v = ev e) ∧ y = (.held v, [])
  evi : ∀ e e', ev e = ev e' → e = e'
  zero : ∀ w, (zeroValue E).run Tryz.prog w = .ok (ev z) w
def upd {κ ε : Type} [DecidableEq κ] (M : κ → Option ε) (k : κ) (e : ε) : κ → Option ε := fun j => if j = k then some e else M j
/-- The datum says what the function says. -/
def Says {κ ε : Type} (kl : κ → Lit) (KF : κ → Prop) (ev : ε → Value) (D : DataW Value) (M : κ → Option ε) : Prop :=
  (∀ k, KF k → ∀ d, D.atKey (kl k) d = ((M k).map fun e => DataW.held (ev e)).getD d) ∧ ∀ k e, M k = some e → KF k
/-- Block b is a map of n entries that holds just this. -/
def TM {κ ε : Type} (K : TypeId) (kl : κ → Lit) (KF : κ → Prop) (ev : ε → Value) (RD : Value → Option (DataW Value × List MemPlace)) (w : World) (b n : Nat) (M : κ → Option ε) : Prop :=
  ∃ D, w.ownsMap Tryz.prog K RD b n D ∧ Says kl KF ev D M ∧ Maps.size D = n
/-- A map that is gone through: what is left. -/
def RG {κ ε : Type} (K : TypeId) (kl : κ → Lit) (KF : κ → Prop) (ev : ε → Value) (RD : Value → Option (DataW Value × List MemPlace)) (w : World) (b r n : Nat) (M : κ → Option ε) (L : κ → Prop) (cnt : Nat) : Prop :=
  ∃ D left, w.ranges Tryz.prog K RD b r n D left cnt ∧ (Says kl KF ev D M ∧ Maps.size D = n) ∧ ∀ k, KF k → (left (kl k) = true ↔ L k)
section
variable {κ ε : Type} {T K E : TypeId} {kv : κ → Value} {kl : κ → Lit} {KF : κ → Prop} {ev : ε → Value} {z : ε} {RD : Value → Option (DataW Value × List MemPlace)}
theorem Says.has {D : DataW Value} {M : κ → Option ε} (h : Says kl KF ev D M) {k : κ} (hk : KF k) : Maps.has D (kl k) = (M k).isSome := by
  have h1 := h.1 k hk
  cases hm : M k with
  | none =>
    rw [hm] at h1
    exact Maps.has_false_of_atKey h1
  | some e =>
    rw [hm] at h1
    exact Maps.has_true_of_atKey h1
theorem TM.lt {w : World} {b n : Nat} {M : κ → Option ε} (h : TM K kl KF ev RD w b n M) : b < w.heap.size := let ⟨_, h1, _⟩ := h; h1.lt
theorem TM.kept {S : Nat → Prop} {w w' : World} {b n : Nat} {M : κ → Option ε} (h : TM K kl KF ev RD w b n M) (Kp : Kept S w w') (hn : ¬ S b) : TM K kl KF ev RD w' b n M := by
  obtain ⟨D, ⟨es, clock, hb, r⟩, s⟩ := h
  exact ⟨D, ⟨es, clock, Kp.get hb hn, r⟩, s⟩
theorem TM.made (w : World) : TM K kl KF ev RD (w.alloc (.map #[] 0)) w.heap.size 0 (fun _ : κ => (none : Option ε)) :=
  ⟨.map [], World.ownsMap_made w _ _ _, ⟨fun _ _ _ => rfl, fun _ _ h => by cases h⟩, rfl⟩
/-- 'm[k]'. -/
theorem TM.look (X : MK T K E kv kl KF ev z RD) {w : World} {b n : Nat} {M : κ → Option ε} (h : TM K kl KF ev RD w b n M) {k : κ} (hk : KF k) : (Instr.lookup T (.map (some b)) (kv k) false).run Tryz.prog w = .ok (ev ((M k).getD z)) w := by
  obtain ⟨D, h, s, _⟩ := h
  obtain ⟨v, ps, h1, h2⟩ := h.lookup X.law X.und (X.zero w) (X.rd z) (X.key k hk)
  rw [h1, s.1 k hk] at *
  have h3 := (X.rdi v _ h2).2
  cases hm : M k with
  | none => rw [hm] at h3; simp at h3; rw [← h3.1]; rfl
  | some e => rw [hm] at h3; simp at h3; rw [← h3.1]; rfl
/-- 'v, ok := m[k]'. -/
theorem TM.look2 (X : MK T K E kv kl KF ev z RD) {w : World} {b n : Nat} {M : κ → Option ε} (h : TM K kl KF ev RD w b n M) {k : κ} (hk : KF k) : (Instr.lookup T (.map (some b)) (kv k) true).run Tryz.prog w = .ok (.tuple #[ev ((M k).getD z), .bool (M k).isSome]) w := by
  obtain ⟨D, ⟨es, clock, hb, F, hs, rfl⟩, s, _⟩ := h
  rcases Maps.fit_look true X.law X.und (X.zero w) hb F (X.key k hk) with ⟨h1, _, h2⟩ | ⟨e0, y, _, _, h1, h2, h3, _⟩
  · have hm : M k = none := by
      cases hm : M k with
      | none => rfl
      | some e =>
        have q := s.1 k hk (.lit (.bool true))
        rw [h2, hm] at q
        simp at q
    rw [h1, hm]
    rfl
  · obtain ⟨⟨e, he⟩, hy⟩ := X.rdi _ _ h2
    cases hm : M k with
    | none =>
      have q := s.1 k hk (.lit (.bool true))
      rw [h3, hm, hy] at q
      simp at q
    | some e' =>
      have q := s.1 k hk (.lit (.bool true))
      rw [h3, hm, hy] at q
      simp at q
      rw [h1, q]
      rfl
/-- 'm[k] = v'. -/
theorem Says.put [DecidableEq κ] (X : MK T K E kv kl KF ev z RD) {D : DataW Value} {M : κ → Option ε} (h : Says kl KF ev D M) (hD : Maps.IsMap D) {k : κ} (hk : KF k) (e : ε) : Says kl KF ev (D.put (kl k) (.held (ev e))) (upd M k e) := by
  refine ⟨fun j hj d => ?_, fun j e' he => ?_⟩
  · unfold upd
    by_cases ej : j = k
    · rw [if_pos ej, ej]
      exact Maps.atKey_put_same hD (X.law.key (X.key k hk)) _ _
    · rw [if_neg ej, Maps.atKey_put_other (fun q => ej (X.inj j k hj hk q))]
      exact h.1 j hj d
  · unfold upd at he
    by_cases ej : j = k
    · rw [ej]; exact hk
    · rw [if_neg ej] at he
      exact h.2 j e' he
/-- A map's bound is its size. -/
theorem owns_size {w : World} {b n : Nat} {D : DataW Value} (h : w.ownsMap Tryz.prog K RD b n D) : w.ownsMap Tryz.prog K RD b (Maps.size D) D := by
  obtain ⟨es, clock, hb, F, hs, e⟩ := h
  refine ⟨es, clock, hb, F, ?_, e⟩
  rw [e, Maps.size_eq, length_sorted]
  simp
theorem TM.len (X : MK T K E kv kl KF ev z RD) {w : World} {b n : Nat} {M : κ → Option ε} (h : TM K kl KF ev RD w b n M) (ty : TypeId) : (Builtin.len_ #[T] ty #[.map (some b)]).run Tryz.prog w = .ok (.int .i64 (n : Int)) w := by
  obtain ⟨D, h, _, e⟩ := h
  rw [← e]
  exact h.len X.und ty
/-- How many there are behind 'm[k] = v'. -/
def nput {κ ε : Type} (n : Nat) (M : κ → Option ε) (k : κ) : Nat := if (M k).isSome then n else n + 1
theorem TM.put [DecidableEq κ] (X : MK T K E kv kl KF ev z RD) {w w' : World} {b n : Nat} {M : κ → Option ε} {D : DataW Value} (o : w.ownsMap Tryz.prog K RD b n D) (s : Says kl KF ev D M) (e0 : Maps.size D = n) {k : κ} (hk : KF k) (e : ε) (h : w'.ownsMap Tryz.prog K RD b (n + 1) (D.put (kl k) (.held (ev e)))) : TM K kl KF ev RD w' b (nput n M k) (upd M k e) := by
  have e1 : Maps.size (D.put (kl k) (.held (ev e))) = nput n M k := by
    rw [Maps.size_put (o.tidy X.law), s.has hk, e0]
    rfl
  have := owns_size h
  rw [e1] at this
  exact ⟨_, this, s.put X o.isMap hk e, e1⟩
theorem wpList_put [DecidableEq κ] (X : MK T K E kv kl KF ev z RD) (w : World) {ops : Array Oper} {rest : List Oper} {o : Oper} {a : Act} {Q : Exit → Act → World → Prop} (hg : o.guard = none) (m x v : Operand) (hop : o.op = Op.mapUpdate T m x v) (b n : Nat) (M : κ → Option ε)
    (hm : a.eval m = .map (some b)) (h : TM K kl KF ev RD w b n M) (hn : n < maxLen) (k : κ) (hk : KF k) (e : ε) (hx : a.eval x = kv k) (hv : a.eval v = ev e)
    (hK : ∀ w', Hid (TM K kl KF ev RD w' b (nput n M k) (upd M k e)) → Hid (Kept (fun j => j = b) w w') → wpList Tryz.prog ops Q rest (a.put o.dst undef) w') : wpList Tryz.prog ops Q (o :: rest) a w := by
  obtain ⟨D, h, s, e0⟩ := h
  refine wpList_mapUpdate_own w hg m x v T hop K E X.law X.und RD b n D hm h hn (kv k) (ev e) (kl k) hx hv (X.key k hk) _ [] (X.rd e) (fun w' h1 hgr => hK w' (TM.put X h s e0 hk e h1) ((Kept.refl _ w).grown hgr (fun j _ q => by simp at q; exact q.symm)))
/-- 'range m'. -/
theorem wpList_rng (X : MK T K E kv kl KF ev z RD) (w : World) {ops : Array Oper} {rest : List Oper} {o : Oper} {a : Act} {Q : Exit → Act → World → Prop} (hg : o.guard = none) (m : Operand) (hop : o.op = Op.range T m) (b n : Nat) (M : κ → Option ε)
    (hm : a.eval m = .map (some b)) (h : TM K kl KF ev RD w b n M)
    (hK : ∀ w', Hid (∃ cnt, RG K kl KF ev RD w' b w.heap.size n M (fun k => M k ≠ none) cnt) → Hid (Kept (fun _ => False) w w') → Hid (w'.heap.size = w.heap.size + 1) → wpList Tryz.prog ops Q rest (a.put o.dst (.pointer (some ⟨w.heap.size, 0, none⟩))) w') : wpList Tryz.prog ops Q (o :: rest) a w := by
  obtain ⟨D, h, s, e0⟩ := h
  refine wpList_range_own w hg m T hop K E X.law X.und RD b n D hm h (fun w' h1 hgr hsz => hK w' ⟨_, D, _, h1, ⟨s, e0⟩, fun k hk => ?_⟩ ((Kept.refl _ w).grown hgr (fun j _ q => by simp at q)) hsz)
  rw [s.has hk]
  show (M k).isSome = true ↔ M k ≠ none
  cases M k <;> simp
theorem RG.tm {w : World} {b r n : Nat} {M : κ → Option ε} {L : κ → Prop} {cnt : Nat} (h : RG K kl KF ev RD w b r n M L cnt) : TM K kl KF ev RD w b n M := by
  obtain ⟨D, left, h, s, _⟩ := h
  exact ⟨D, h.owns, s.1, s.2⟩
theorem RG.left_eq {w : World} {b r n : Nat} {M : κ → Option ε} {L : κ → Prop} {cnt : Nat} (h : RG K kl KF ev RD w b r n M L cnt) : w.rangeLeft b r = cnt := by
  obtain ⟨D, left, h, s, _⟩ := h
  exact h.left_eq
theorem RG.lt {w : World} {b r n : Nat} {M : κ → Option ε} {L : κ → Prop} {cnt : Nat} (h : RG K kl KF ev RD w b r n M L cnt) : r < w.heap.size ∧ r ≠ b := by
  obtain ⟨D, left, h, s, _⟩ := h
  exact ⟨h.lt, h.ne⟩
theorem RG.kept {S : Nat → Prop} {w w' : World} {b r n : Nat} {M : κ → Option ε} {L : κ → Prop} {cnt : Nat} (h : RG K kl KF ev RD w b r n M L cnt) (Kp : Kept S w w') (hb : ¬ S b) (hr : ¬ S r) : RG K kl KF ev RD w' b r n M L cnt := by
  obtain ⟨D, left, h, s, hl⟩ := h
  refine ⟨D, left, ?_, s, hl⟩
  obtain ⟨es, clock, since, seen, c0, h1, h2, h3, h4, h5, h6⟩ := h
  exact ⟨es, clock, since, seen, c0, Kp.get h1 hb, h2, h3, h4, Kp.get h5 hr, h6⟩
/-- The next entry. -/
theorem wpList_nxt (X : MK T K E kv kl KF ev z RD) (w : World) {ops : Array Oper} {rest : List Oper} {o : Oper} {a : Act} {Q : Exit → Act → World → Prop} (hg : o.guard = none) (it : Operand) (hop : o.op = Op.next it false) (b r n : Nat) (M : κ → Option ε) (L : κ → Prop) (cnt : Nat)
    (hit : a.eval it = .pointer (some ⟨r, 0, none⟩)) (h : RG K kl KF ev RD w b r n M L cnt)
    (hDone : Hid (∀ k, KF k → ¬ L k) → wpList Tryz.prog ops Q rest (a.put o.dst (.tuple #[.bool false])) w)
    (hMore : ∀ (k : κ) (e : ε) (w' : World) (cnt' : Nat), Hid (KF k ∧ L k ∧ M k = some e) → Hid (RG K kl KF ev RD w' b r n M (fun j => L j ∧ j ≠ k) cnt') → Hid (cnt' < cnt) → Hid (Kept (fun j => j = r) w w') →
      (Instr.entry (.pointer (some ⟨r, 0, none⟩))).run Tryz.prog w' = .ok (.tuple #[kv k, ev e]) w' → wpList Tryz.prog ops Q rest (a.put o.dst (.tuple #[.bool true, kv k, ev e])) w') : wpList Tryz.prog ops Q (o :: rest) a w := by
  obtain ⟨D, left, h, s, hl⟩ := h
  refine wpList_next_ranges w hg it hop K X.law RD kv ev (fun key l hk => by obtain ⟨k, e, _⟩ := X.inv key l hk; exact ⟨k, e⟩) (fun v y hv => (X.rdi v y hv).1) b r n D left cnt hit h (fun _ h2 => hDone (fun k hk hL => ?_)) (fun k e l y w' cnt' h1 h2 h3 h4 h5 h6 h7 h8 h9 => ?_)
  · have := (hl k hk).2 hL
    rw [h2] at this
    cases this
  · obtain ⟨k', e1, hk, rfl⟩ := X.inv _ _ h1
    have := X.kvi _ _ e1
    subst this
    have hy := (X.rdi _ _ h3).2
    have hm : M k = some e := by
      have q := s.1.1 k hk (.lit (.bool true))
      rw [h4, hy] at q
      cases hm : M k with
      | none => rw [hm] at q; simp at q
      | some e' => rw [hm] at q; simp at q; rw [X.evi _ _ q]
    refine hMore k e w' cnt' ⟨hk, (hl k hk).1 h2, hm⟩ ⟨D, _, h5, s, fun j hj => ?_⟩ h6 ((Kept.refl _ w).grown h7 (fun i _ q => by simp at q; exact q.symm)) h9
    by_cases ej : j = k
    · subst ej
      have e2 : (kl j).sameKey (kl j) = true := WideAt.sameKey_self (X.law.key (X.key j hj))
      simp [e2]
    · have e2 : (kl j).sameKey (kl k) = false := Maps.sameKey_ne (fun q => ej (X.inj j k hj hk q))
      simp [e2, ej]
      exact hl j hj
end
theorem RG.cnt_le {κ ε : Type} {K : TypeId} {kl : κ → Lit} {KF : κ → Prop} {ev : ε → Value} {RD : Value → Option (DataW Value × List MemPlace)} {w : World} {b r n : Nat} {M : κ → Option ε} {L : κ → Prop} {cnt : Nat} (h : RG K kl KF ev RD w b r n M L cnt) : cnt ≤ n := by
  obtain ⟨D, left, ⟨es, clock, since, seen, c0, _, _, h3, _, _, _, h7, _⟩, _⟩ := h
  have : (leftOf es seen).size ≤ es.size := by unfold leftOf; exact Array.size_filter_le
  omega
end Go.Proofs.YtbangbobfeflcaaGreatDoor
