import Derived.Test.YtojepeefphbekaaGreatKeysJ
namespace Go.Proofs.YtojepeefphbekaaGreat
open Go.RowKit

/-- What is known of a kind of maps: its keys, its elements. -/
structure MK {κ ε : Type} (T K E : TypeId) (kv : κ → Value) (kl : κ → Lit) (KF : κ → Prop) (ev : ε → Value) (z : ε) (RD : Value → Option (DataW Value × List MemPlace)) : Prop where
  law : Maps.Keyed Tryz.prog K
  und : Tryz.prog.underlying T = some (.map K E)
  key : ∀ k, KF k → keyOf Tryz.prog K (kv k) = some (kl k)
  inv : ∀ v l, keyOf Tryz.prog K v = some l → ∃ k, v = kv k ∧ KF k ∧ l = kl k
  inj : ∀ k k', KF k → KF k' → kl k = kl k' → k = k'
  kvi : ∀ k k', kv k = kv k' → k = k'
  rd : ∀ e, RD (ev e) = some (.held (ev e), [])
  rdi : ∀ v y, RD v = some y → (∃ e, v = ev e) ∧ y = (.held v, [])
  evi : ∀ e e', ev e = ev e' → e = e'
  zero : ∀ w, (zeroValue E).run Tryz.prog w = .ok (ev z) w
def upd {κ ε : Type} [DecidableEq κ] (M : κ → Option ε) (k : κ) (e : ε) : κ → Option ε := fun j => if j = k then some e else M j
def cut {κ ε : Type} [DecidableEq κ] (M : κ → Option ε) (k : κ) : κ → Option ε := fun j => if j = k then none else M j
/-- The datum says what the function says. -/
def Says {κ ε : Type} (kl : κ → Lit) (KF : κ → Prop) (ev : ε → Value) (D : DataW Value) (M : κ → Option ε) : Prop :=
  (∀ k, KF k → ∀ d, D.atKey (kl k) d = ((M k).map fun e => DataW.held (ev e)).getD d) ∧ ∀ k e, M k = some e → KF k
/-- Block b is a map of at most n entries that holds just this. -/
def TM {κ ε : Type} (K : TypeId) (kl : κ → Lit) (KF : κ → Prop) (ev : ε → Value) (RD : Value → Option (DataW Value × List MemPlace)) (w : World) (b n : Nat) (M : κ → Option ε) : Prop :=
  ∃ D, w.ownsMap Tryz.prog K RD b n D ∧ Says kl KF ev D M
/-- A map that is gone through: what is left. -/
def RG {κ ε : Type} (K : TypeId) (kl : κ → Lit) (KF : κ → Prop) (ev : ε → Value) (RD : Value → Option (DataW Value × List MemPlace)) (w : World) (b r n : Nat) (M : κ → Option ε) (L : κ → Prop) (cnt : Nat) : Prop :=
  ∃ D left, w.ranges Tryz.prog K RD b r n D left cnt ∧ Says kl KF ev D M ∧ ∀ k, KF k → (left (kl k) = true ↔ L k)
section
variable {κ ε : Type} {T K E : TypeId} {kv : κ → Value} {kl : κ → Lit} {KF : κ → Prop} {ev : ε → Value} {z : ε} {RD : Value → Option (DataW Value × List MemPlace)}
theorem Says.has {D : DataW Value} {M : κ → Option ε} (h : Says kl KF ev D M) {k : κ} (hk : KF k) : Maps.has D (kl k) = (M k).isSome := by
  have h1 := h.1 k hk
  cases hm : M k with
  | none =>
    rw [hm] at h1
    exact Maps.has_false_of_atKey h1
  | some e =>
    rw [hm] at h1
    exact Maps.has_true_of_atKey h1
theorem TM.lt {w : World} {b n : Nat} {M : κ → Option ε} (h : TM K kl KF ev RD w b n M) : b < w.heap.size := let ⟨_, h1, _⟩ := h; h1.lt
theorem TM.kept {S : Nat → Prop} {w w' : World} {b n : Nat} {M : κ → Option ε} (h : TM K kl KF ev RD w b n M) (Kp : Kept S w w') (hn : ¬ S b) : TM K kl KF ev RD w' b n M := by
  obtain ⟨D, ⟨es, clock, hb, r⟩, s⟩ := h
  exact ⟨D, ⟨es, clock, Kp.get hb hn, r⟩, s⟩
theorem TM.mono {w : World} {b n n' : Nat} {M : κ → Option ε} (h : TM K kl KF ev RD w b n M) (hn : n ≤ n') : TM K kl KF ev RD w b n' M := by
  obtain ⟨D, h, s⟩ := h
  exact ⟨D, h.mono hn, s⟩
theorem TM.made (w : World) : TM K kl KF ev RD (w.alloc (.map #[] 0)) w.heap.size 0 (fun _ : κ => (none : Option ε)) :=
  ⟨.map [], World.ownsMap_made w _ _ _, fun _ _ _ => rfl, fun _ _ h => by cases h⟩
/-- 'm[k]'. -/
theorem TM.look (X : MK T K E kv kl KF ev z RD) {w : World} {b n : Nat} {M : κ → Option ε} (h : TM K kl KF ev RD w b n M) {k : κ} (hk : KF k) : (Instr.lookup T (.map (some b)) (kv k) false).run Tryz.prog w = .ok (ev ((M k).getD z)) w := by
  obtain ⟨D, h, s⟩ := h
  obtain ⟨v, ps, h1, h2⟩ := h.lookup X.law X.und (X.zero w) (X.rd z) (X.key k hk)
  rw [h1, s.1 k hk] at *
  have h3 := (X.rdi v _ h2).2
  cases hm : M k with
  | none => rw [hm] at h3; simp at h3; rw [← h3.1]; rfl
  | some e => rw [hm] at h3; simp at h3; rw [← h3.1]; rfl
/-- 'v, ok := m[k]'. -/
theorem TM.look2 (X : MK T K E kv kl KF ev z RD) {w : World} {b n : Nat} {M : κ → Option ε} (h : TM K kl KF ev RD w b n M) {k : κ} (hk : KF k) : (Instr.lookup T (.map (some b)) (kv k) true).run Tryz.prog w = .ok (.tuple #[ev ((M k).getD z), .bool (M k).isSome]) w := by
  obtain ⟨D, ⟨es, clock, hb, F, hs, rfl⟩, s⟩ := h
  rcases Maps.fit_look true X.law X.und (X.zero w) hb F (X.key k hk) with ⟨h1, _, h2⟩ | ⟨e0, y, _, _, h1, h2, h3, _⟩
  · have hm : M k = none := by
      cases hm : M k with
      | none => rfl
      | some e =>
        have q := s.1 k hk (.lit (.bool true))
        rw [h2, hm] at q
        simp at q
    rw [h1, hm]
    rfl
  · obtain ⟨⟨e, he⟩, hy⟩ := X.rdi _ _ h2
    cases hm : M k with
    | none =>
      have q := s.1 k hk (.lit (.bool true))
      rw [h3, hm, hy] at q
      simp at q
    | some e' =>
      have q := s.1 k hk (.lit (.bool true))
      rw [h3, hm, hy] at q
      simp at q
      rw [h1, q]
      rfl
/-- 'm[k] = v'. -/
theorem Says.put [DecidableEq κ] (X : MK T K E kv kl KF ev z RD) {D : DataW Value} {M : κ → Option ε} (h : Says kl KF ev D M) (hD : Maps.IsMap D) {k : κ} (hk : KF k) (e : ε) : Says kl KF ev (D.put (kl k) (.held (ev e))) (upd M k e) := by
  refine ⟨fun j hj d => ?_, fun j e' he => ?_⟩
  · unfold upd
    by_cases ej : j = k
    · rw [if_pos ej, ej]
      exact Maps.atKey_put_same hD (X.law.key (X.key k hk)) _ _
    · rw [if_neg ej, Maps.atKey_put_other (fun q => ej (X.inj j k hj hk q))]
      exact h.1 j hj d
  · unfold upd at he
    by_cases ej : j = k
    · rw [ej]; exact hk
    · rw [if_neg ej] at he
      exact h.2 j e' he
theorem Says.del [DecidableEq κ] (X : MK T K E kv kl KF ev z RD) {D : DataW Value} {M : κ → Option ε} (h : Says kl KF ev D M) {k : κ} (hk : KF k) : Says kl KF ev (D.del (kl k)) (cut M k) := by
  refine ⟨fun j hj d => ?_, fun j e' he => ?_⟩
  · unfold cut
    by_cases ej : j = k
    · rw [if_pos ej, ej]
      exact Maps.atKey_del_same _
    · rw [if_neg ej, Maps.atKey_del_other (fun q => ej (X.inj j k hj hk q))]
      exact h.1 j hj d
  · unfold cut at he
    by_cases ej : j = k
    · rw [ej]; exact hk
    · rw [if_neg ej] at he
      exact h.2 j e' he
theorem wpList_put [DecidableEq κ] (X : MK T K E kv kl KF ev z RD) (w : World) {ops : Array Oper} {rest : List Oper} {o : Oper} {a : Act} {Q : Exit → Act → World → Prop} (hg : o.guard = none) (m x v : Operand) (hop : o.op = Op.mapUpdate T m x v) (b n : Nat) (M : κ → Option ε)
    (hm : a.eval m = .map (some b)) (h : TM K kl KF ev RD w b n M) (hn : n < maxLen) (k : κ) (hk : KF k) (e : ε) (hx : a.eval x = kv k) (hv : a.eval v = ev e)
    (hK : ∀ w', Hid (TM K kl KF ev RD w' b (n + 1) (upd M k e)) → Hid (Kept (fun j => j = b) w w') → wpList Tryz.prog ops Q rest (a.put o.dst undef) w') : wpList Tryz.prog ops Q (o :: rest) a w := by
  obtain ⟨D, h, s⟩ := h
  refine wpList_mapUpdate_own w hg m x v T hop K E X.law X.und RD b n D hm h hn (kv k) (ev e) (kl k) hx hv (X.key k hk) _ [] (X.rd e) (fun w' h1 hgr => hK w' ⟨_, h1, s.put X h.isMap hk e⟩ ((Kept.refl _ w).grown hgr (fun j _ q => by simp at q; exact q.symm)))
/-- 'range m'. -/
theorem wpList_rng (X : MK T K E kv kl KF ev z RD) (w : World) {ops : Array Oper} {rest : List Oper} {o : Oper} {a : Act} {Q : Exit → Act → World → Prop} (hg : o.guard = none) (m : Operand) (hop : o.op = Op.range T m) (b n : Nat) (M : κ → Option ε)
    (hm : a.eval m = .map (some b)) (h : TM K kl KF ev RD w b n M)
    (hK : ∀ w', Hid (∃ cnt, RG K kl KF ev RD w' b w.heap.size n M (fun k => M k ≠ none) cnt) → Hid (Kept (fun _ => False) w w') → Hid (w'.heap.size = w.heap.size + 1) → wpList Tryz.prog ops Q rest (a.put o.dst (.pointer (some ⟨w.heap.size, 0, none⟩))) w') : wpList Tryz.prog ops Q (o :: rest) a w := by
  obtain ⟨D, h, s⟩ := h
  refine wpList_range_own w hg m T hop K E X.law X.und RD b n D hm h (fun w' h1 hgr hsz => hK w' ⟨_, D, _, h1, s, fun k hk => ?_⟩ ((Kept.refl _ w).grown hgr (fun j _ q => by simp at q)) hsz)
  rw [s.has hk]
  show (M k).isSome = true ↔ M k ≠ none
  cases M k <;> simp
theorem RG.tm {w : World} {b r n : Nat} {M : κ → Option ε} {L : κ → Prop} {cnt : Nat} (h : RG K kl KF ev RD w b r n M L cnt) : TM K kl KF ev RD w b n M := by
  obtain ⟨D, left, h, s, _⟩ := h
  exact ⟨D, h.owns, s⟩
theorem RG.left_eq {w : World} {b r n : Nat} {M : κ → Option ε} {L : κ → Prop} {cnt : Nat} (h : RG K kl KF ev RD w b r n M L cnt) : w.rangeLeft b r = cnt := by
  obtain ⟨D, left, h, s, _⟩ := h
  exact h.left_eq
theorem RG.lt {w : World} {b r n : Nat} {M : κ → Option ε} {L : κ → Prop} {cnt : Nat} (h : RG K kl KF ev RD w b r n M L cnt) : r < w.heap.size ∧ r ≠ b := by
  obtain ⟨D, left, h, s, _⟩ := h
  exact ⟨h.lt, h.ne⟩
theorem RG.kept {S : Nat → Prop} {w w' : World} {b r n : Nat} {M : κ → Option ε} {L : κ → Prop} {cnt : Nat} (h : RG K kl KF ev RD w b r n M L cnt) (Kp : Kept S w w') (hb : ¬ S b) (hr : ¬ S r) : RG K kl KF ev RD w' b r n M L cnt := by
  obtain ⟨D, left, h, s, hl⟩ := h
  refine ⟨D, left, ?_, s, hl⟩
  obtain ⟨es, clock, since, seen, c0, h1, h2, h3, h4, h5, h6⟩ := h
  exact ⟨es, clock, since, seen, c0, Kp.get h1 hb, h2, h3, h4, Kp.get h5 hr, h6⟩
/-- The next entry. -/
theorem wpList_nxt (X : MK T K E kv kl KF ev z RD) (w : World) {ops : Array Oper} {rest : List Oper} {o : Oper} {a : Act} {Q : Exit → Act → World → Prop} (hg : o.guard = none) (it : Operand) (hop : o.op = Op.next it false) (b r n : Nat) (M : κ → Option ε) (L : κ → Prop) (cnt : Nat)
    (hit : a.eval it = .pointer (some ⟨r, 0, none⟩)) (h : RG K kl KF ev RD w b r n M L cnt)
    (hDone : Hid (∀ k, KF k → ¬ L k) → wpList Tryz.prog ops Q rest (a.put o.dst (.tuple #[.bool false])) w)
    (hMore : ∀ (k : κ) (e : ε) (w' : World) (cnt' : Nat), Hid (KF k ∧ L k ∧ M k = some e) → Hid (RG K kl KF ev RD w' b r n M (fun j => L j ∧ j ≠ k) cnt') → Hid (cnt' < cnt) → Hid (Kept (fun j => j = r) w w') →
      (Instr.entry (.pointer (some ⟨r, 0, none⟩))).run Tryz.prog w' = .ok (.tuple #[kv k, ev e]) w' → wpList Tryz.prog ops Q rest (a.put o.dst (.tuple #[.bool true, kv k, ev e])) w') : wpList Tryz.prog ops Q (o :: rest) a w := by
  obtain ⟨D, left, h, s, hl⟩ := h
  refine wpList_next_ranges w hg it hop K X.law RD kv ev (fun key l hk => by obtain ⟨k, e, _⟩ := X.inv key l hk; exact ⟨k, e⟩) (fun v y hv => (X.rdi v y hv).1) b r n D left cnt hit h (fun _ h2 => hDone (fun k hk hL => ?_)) (fun k e l y w' cnt' h1 h2 h3 h4 h5 h6 h7 h8 h9 => ?_)
  · have := (hl k hk).2 hL
    rw [h2] at this
    cases this
  · obtain ⟨k', e1, hk, rfl⟩ := X.inv _ _ h1
    have := X.kvi _ _ e1
    subst this
    have hy := (X.rdi _ _ h3).2
    have hm : M k = some e := by
      have q := s.1 k hk (.lit (.bool true))
      rw [h4, hy] at q
      cases hm : M k with
      | none => rw [hm] at q; simp at q
      | some e' => rw [hm] at q; simp at q; rw [X.evi _ _ q]
    refine hMore k e w' cnt' ⟨hk, (hl k hk).1 h2, hm⟩ ⟨D, _, h5, s, fun j hj => ?_⟩ h6 ((Kept.refl _ w).grown h7 (fun i _ q => by simp at q; exact q.symm)) h9
    by_cases ej : j = k
    · subst ej
      have e2 : (kl j).sameKey (kl j) = true := WideAt.sameKey_self (X.law.key (X.key j hj))
      simp [e2]
    · have e2 : (kl j).sameKey (kl k) = false := Maps.sameKey_ne (fun q => ej (X.inj j k hj hk q))
      simp [e2, ej]
      exact hl j hj
/-- 'delete(m, k)' on the way. -/
theorem wpList_del [DecidableEq κ] (X : MK T K E kv kl KF ev z RD) (w : World) {ops : Array Oper} {rest : List Oper} {o : Oper} {a : Act} {Q : Exit → Act → World → Prop} (hg : o.guard = none) (m x : Operand) (hop : o.op = Op.call { callee := Callee.builtin Builtin.delete, args := #[m, x], argTypes := #[T, K] }) (b r n : Nat) (M : κ → Option ε) (L : κ → Prop) (cnt : Nat)
    (hm : a.eval m = .map (some b)) (h : RG K kl KF ev RD w b r n M L cnt) (k : κ) (hk : KF k) (hx : a.eval x = kv k)
    (hK : ∀ w' cnt', Hid (RG K kl KF ev RD w' b r n (cut M k) (fun j => L j ∧ j ≠ k) cnt') → Hid (cnt' ≤ cnt) → Hid (Kept (fun j => j = b) w w') → wpList Tryz.prog ops Q rest (a.put o.dst (.tuple #[])) w') : wpList Tryz.prog ops Q (o :: rest) a w := by
  obtain ⟨D, left, h, s, hl⟩ := h
  refine wpList_delete_ranges w hg m x T K hop E X.law X.und RD b r n D left cnt hm h (kv k) (kl k) hx (X.key k hk) (fun w' cnt' h1 h2 h3 => hK w' cnt' ⟨_, _, h1, s.del X hk, fun j hj => ?_⟩ h2 ?_)
  · by_cases ej : j = k
    · subst ej
      have e2 : (kl j).sameKey (kl j) = true := WideAt.sameKey_self (X.law.key (X.key j hj))
      simp [e2]
    · have e2 : (kl j).sameKey (kl k) = false := Maps.sameKey_ne (fun q => ej (X.inj j k hj hk q))
      simp [e2, ej]
      exact hl j hj
  · obtain ⟨es, clock, es', clock', hb, rfl⟩ := h3
    refine ⟨rfl, rfl, rfl, by simp [ChangeMaps.setBlock], fun i hi hn => ?_⟩
    exact ChangeMaps.heap_setBlock_other hb _ hn
end
/-- What is held of a tag. -/
structure Hd where
  fin : Bool
  has : Bool
  a : Option Addr
  n : Nat
  c : Nat
def Hd.val (h : Hd) : Value := .agg #[.bool h.fin, .bool h.has, .slice h.a h.n h.c]
def Hd.zero : Hd := ⟨false, false, none, 0, 0⟩
def RH (v : Value) : Option (DataW Value × List MemPlace) :=
  match v with
  | .agg cs => (match cs.toList with | [.bool _, .bool _, .slice _ _ _] => some (.held v, []) | _ => none)
  | _ => none
theorem tagsK : MK 86 37 94 tv tl TFit Hd.val Hd.zero RH where
  law := tagLaw
  und := Tryz.underlying86
  key := key_tag
  inv _ _ h := key_inv h
  inj _ _ := tl_inj
  kvi k k' h := by unfold tv at h; simp at h; exact Prod.ext h.1 h.2
  rd _ := rfl
  rdi v y h := by
    unfold RH at h
    split at h
    · rename_i cs
      split at h
      · rename_i f g a n c he
        have hc : cs = #[.bool f, .bool g, .slice a n c] := Array.toList_inj.1 he
        exact ⟨⟨⟨f, g, a, n, c⟩, by rw [hc]; rfl⟩, (Option.some.inj h).symm⟩
      · cases h
    · cases h
  evi e e' h := by
    obtain ⟨a1, a2, a3, a4, a5⟩ := e
    obtain ⟨b1, b2, b3, b4, b5⟩ := e'
    unfold Hd.val at h
    simp at h
    obtain ⟨rfl, rfl, rfl, rfl, rfl⟩ := h
    rfl
  zero w := Tryz.zeroValue94 w
/-- A key's row: the block of its map, the block of its set. -/
structure RV where
  m : Option Nat
  p : Option Nat
def RV.val (v : RV) : Value := .agg #[.map v.m, .pointer (v.p.map fun b => ⟨b, 0, none⟩)]
def RV.zero : RV := ⟨none, none⟩
def RR (v : Value) : Option (DataW Value × List MemPlace) :=
  match v with
  | .agg cs => (match cs.toList with | [.map _, .pointer none] => some (.held v, []) | [.map _, .pointer (some ⟨_, 0, none⟩)] => some (.held v, []) | _ => none)
  | _ => none
theorem rowsK : MK 83 9 89 Value.string (fun s : ByteArray => Lit.string s.data.toList) (fun s : ByteArray => s.size ≤ maxLen) RV.val RV.zero RR where
  law := strLaw
  und := Tryz.underlying83
  key _ h := WideMaps.keyOf_string_mk Tryz.underlying9 h
  inv v l h := by
    obtain ⟨s, h1, h2, h3⟩ := WideMaps.string_of_keyOf Tryz.underlying9 h
    exact ⟨s, h1, h3, h2⟩
  inj k k' _ _ h := by
    obtain ⟨⟨k⟩⟩ := k
    obtain ⟨⟨k'⟩⟩ := k'
    simpa using h
  kvi k k' h := by simpa using h
  rd v := by obtain ⟨m, p⟩ := v; cases p <;> rfl
  rdi v y h := by
    unfold RR at h
    split at h
    · rename_i cs
      split at h
      · rename_i m he
        have hc : cs = #[.map m, .pointer none] := Array.toList_inj.1 he
        exact ⟨⟨⟨m, none⟩, by rw [hc]; rfl⟩, (Option.some.inj h).symm⟩
      · rename_i m b he
        have hc : cs = #[.map m, .pointer (some ⟨b, 0, none⟩)] := Array.toList_inj.1 he
        exact ⟨⟨⟨m, some b⟩, by rw [hc]; rfl⟩, (Option.some.inj h).symm⟩
      · cases h
    · cases h
  evi e e' h := by
    obtain ⟨a1, a2⟩ := e
    obtain ⟨b1, b2⟩ := e'
    unfold RV.val at h
    simp at h
    obtain ⟨rfl, h⟩ := h
    cases a2 <;> cases b2 <;> simp at h
    · rfl
    · subst h; rfl
  zero w := Tryz.zeroValue89 w
end Go.Proofs.YtojepeefphbekaaGreat

namespace Go.Proofs.YtojepeefphbekaaGreat
open Go.RowKit

theorem two0 (w : World) (o1 o2 : Obj) : ((w.alloc o1).alloc o2).heap[w.heap.size]? = some o1 := (Below.heap_alloc (w.alloc o1) o2 w.heap.size (by simp)).trans (heap_alloc_new w o1)
theorem two1 (w : World) (o1 o2 : Obj) : ((w.alloc o1).alloc o2).heap[w.heap.size + 1]? = some o2 := by
  have := heap_alloc_new (w.alloc o1) o2
  simpa using this
theorem high_none (z : Int) (w : World) : Calls Tryz.prog 68 #[.pointer none, .int .i64 z] w fun o w' => o = .returned (.tuple #[.agg #[.int .i64 0, .int .i64 0], .int .i64 0]) ∧ Below w.heap.size w w' := by
  have BH : Hid (Below w.heap.size w (w.alloc (Obj.cells #[.int .i64 0, .int .i64 0] 37))) := (Below.refl w.heap.size w).alloc (Nat.le_refl _) _
  have TH : Hid (TagAt (w.alloc (Obj.cells #[.int .i64 0, .int .i64 0] 37)) w.heap.size 0 0) := TagAt.new w 0 0
  go_enter Tryz.func68, Tryz.ntmps68
  go_wp2_with fail
  exact bodyPost_ret (results_tag_tmp rfl _ _ _ 0 0 rfl TH.out) rfl ⟨rfl, BH.out⟩
/-- The z-th highest, the initial tag if there are not so many. -/
def floorT (S : List (Int × Int)) (z : Int) : Int × Int := if 0 ≤ z ∧ z < S.length then S.getD (S.length - 1 - z.toNat) (0, 0) else (0, 0)
/-- A pointer to a set, or none. -/
def pv (p : Option Nat) : Value := .pointer (p.map fun b => ⟨b, 0, none⟩)
def HasS (w : World) (p : Option Nat) (S : List (Int × Int)) : Prop := (p = none ∧ S = []) ∨ ∃ sb q len cap, p = some sb ∧ SV w sb 142 q len cap S ∧ len * 16 ≤ 211106232532992
theorem HasS.k0 {w w' : World} {p : Option Nat} {S : List (Int × Int)} (h : HasS w p S) (K : Kept (fun _ => False) w w') : HasS w' p S := by
  rcases h with h | ⟨sb, q, len, cap, h1, h2, h3⟩
  · exact .inl h
  · exact .inr ⟨sb, q, len, cap, h1, h2.by ⟨K.os, K.tape, K.output, K.size, fun k hk => K.block k hk (fun z => z)⟩, h3⟩
theorem highAny (P : Value) (p : Option Nat) (hP : P = pv p) (S : List (Int × Int)) (z : Int) (w : World) (h : HasS w p S) : Calls Tryz.prog 68 #[P, .int .i64 z] w fun o w' => ∃ x y e : Int, o = .returned (.tuple #[.agg #[.int .i64 x, .int .i64 y], .int .i64 e]) ∧ floorT S z = (x, y) ∧ Kept (fun _ => False) w w' := by
  subst hP
  rcases h with ⟨rfl, rfl⟩ | ⟨sb, q, len, cap, rfl, h2, h3⟩
  · refine (high_none z w).mono ?_
    rintro o w' ⟨rfl, B⟩
    have e : floorT [] z = (0, 0) := by unfold floorT; split <;> rfl
    exact ⟨0, 0, 0, rfl, e, k0_of B⟩
  · refine (sHigh sb q len cap S z w h2 h3).mono ?_
    rintro o w' ⟨x, y, c, rfl, hs, B⟩
    have e : floorT S z = (x, y) := by
      unfold floorT
      rcases hs with ⟨a1, a2, a3, _⟩ | ⟨a1, rfl, rfl, _⟩
      · rw [if_pos ⟨a1, a2⟩]; exact a3
      · rw [if_neg a1]
    exact ⟨x, y, c, rfl, e, k0_of B⟩
theorem rFloor (m P : Value) (p : Option Nat) (hP : P = pv p) (S : List (Int × Int)) (d : Int) (w : World) (hm : ∃ b, m = .map b) (h : HasS w p S) : Calls Tryz.prog 43 #[.agg #[m, P], .int .i64 d] w fun o w' => ∃ x y : Int, o = .returned (.agg #[.int .i64 x, .int .i64 y]) ∧ floorT S d = (x, y) ∧ Kept (fun _ => False) w w' := by
  have HP : Hid (P = pv p) := hP
  obtain ⟨b, rfl⟩ := hm
  obtain ⟨pp, hpp⟩ : ∃ pp, P = .pointer pp := ⟨_, hP⟩
  subst hpp
  have KZ : Kept (fun _ => False) w ((w.alloc (.cells #[.map b, .pointer pp] 89)).alloc (.cells #[.int .i64 0, .int .i64 0] 37)) := ((Kept.refl _ w).alloc _).alloc _
  obtain ⟨W, hW⟩ : ∃ W, W = (w.alloc (.cells #[.map b, .pointer pp] 89)).alloc (.cells #[.int .i64 0, .int .i64 0] 37) := ⟨_, rfl⟩
  have T1 : TagAt W (w.heap.size + 1) 0 0 := by rw [hW]; have := TagAt.new (w.alloc (.cells #[.map b, .pointer pp] 89)) 0 0; simpa using this
  have H : Hid (HasS W p S ∧ TagAt W (w.heap.size + 1) 0 0 ∧ Kept (fun _ => False) w W) := by rw [hW] at T1 ⊢; exact ⟨h.k0 KZ, T1, KZ⟩
  have c1 : W.cell? ⟨w.heap.size, 1, none⟩ = some (.pointer pp) := by rw [hW]; simp
  have EW : Hid (W = (w.alloc (.cells #[.map b, .pointer pp] 89)).alloc (.cells #[.int .i64 0, .int .i64 0] 37)) := hW
  clear h hP KZ hW T1
  go_enter Tryz.func43, Tryz.ntmps43
  go_upto_region 1 with fail
  rw [← EW.out]
  go_wp2_with fail
  refine (highAny (.pointer pp) p HP.out S d W H.out.1).mono ?_
  rintro o w2 ⟨x, y, e, rfl, hf, K2⟩
  have H2 : Hid (TagAt w2 (w.heap.size + 1) 0 0 ∧ Kept (fun _ => False) w w2 ∧ floorT S d = (x, y)) := ⟨⟨K2.get H.out.2.1.blk (fun z => z)⟩, H.out.2.2.and0 K2, hf⟩
  have l2 := H2.out.1.lt
  obtain ⟨t0, t1, f0, f1⟩ := H2.out.1.facts
  clear hf K2 c1
  go_wp2_with fail
  exact bodyPost_ret (results_tag rfl _ _ _ x y rfl (((H2.out.1.set0 _).set1 _).alloc _)) rfl ⟨x, y, rfl, H2.out.2.2, ((H2.out.2.1.setCell (p := ⟨w.heap.size + 1, 0, none⟩) (fun z => by simp at z; omega) _).setCell (p := ⟨w.heap.size + 1, 1, none⟩) (fun z => by simp at z; omega) _).alloc _⟩
theorem rTop (m P : Value) (p : Option Nat) (hP : P = pv p) (S : List (Int × Int)) (w : World) (hm : ∃ b, m = .map b) (h : HasS w p S) : Calls Tryz.prog 42 #[.agg #[m, P]] w fun o w' => ∃ x y : Int, o = .returned (.agg #[.int .i64 x, .int .i64 y]) ∧ floorT S 0 = (x, y) ∧ Kept (fun _ => False) w w' := by
  have HP : Hid (P = pv p) := hP
  obtain ⟨b, rfl⟩ := hm
  obtain ⟨pp, hpp⟩ : ∃ pp, P = .pointer pp := ⟨_, hP⟩
  subst hpp
  have KZ : Kept (fun _ => False) w ((w.alloc (.cells #[.map b, .pointer pp] 89)).alloc (.cells #[.int .i64 0, .int .i64 0] 37)) := ((Kept.refl _ w).alloc _).alloc _
  obtain ⟨W, hW⟩ : ∃ W, W = (w.alloc (.cells #[.map b, .pointer pp] 89)).alloc (.cells #[.int .i64 0, .int .i64 0] 37) := ⟨_, rfl⟩
  have T1 : TagAt W (w.heap.size + 1) 0 0 := by rw [hW]; have := TagAt.new (w.alloc (.cells #[.map b, .pointer pp] 89)) 0 0; simpa using this
  have H : Hid (HasS W p S ∧ TagAt W (w.heap.size + 1) 0 0 ∧ Kept (fun _ => False) w W) := by rw [hW] at T1 ⊢; exact ⟨h.k0 KZ, T1, KZ⟩
  have c1 : W.cell? ⟨w.heap.size, 1, none⟩ = some (.pointer pp) := by rw [hW]; simp
  have EW : Hid (W = (w.alloc (.cells #[.map b, .pointer pp] 89)).alloc (.cells #[.int .i64 0, .int .i64 0] 37)) := hW
  clear h hP KZ hW T1
  go_enter Tryz.func42, Tryz.ntmps42
  go_upto_region 1 with fail
  rw [← EW.out]
  go_wp2_with fail
  refine (highAny (.pointer pp) p HP.out S 0 W H.out.1).mono ?_
  rintro o w2 ⟨x, y, e, rfl, hf, K2⟩
  have H2 : Hid (TagAt w2 (w.heap.size + 1) 0 0 ∧ Kept (fun _ => False) w w2 ∧ floorT S 0 = (x, y)) := ⟨⟨K2.get H.out.2.1.blk (fun z => z)⟩, H.out.2.2.and0 K2, hf⟩
  have l2 := H2.out.1.lt
  obtain ⟨t0, t1, f0, f1⟩ := H2.out.1.facts
  clear hf K2 c1
  go_wp2_with fail
  exact bodyPost_ret (results_tag rfl _ _ _ x y rfl (((H2.out.1.set0 _).set1 _).alloc _)) rfl ⟨x, y, rfl, H2.out.2.2, ((H2.out.2.1.setCell (p := ⟨w.heap.size + 1, 0, none⟩) (fun z => by simp at z; omega) _).setCell (p := ⟨w.heap.size + 1, 1, none⟩) (fun z => by simp at z; omega) _).alloc _⟩
set_option maxHeartbeats 1000000 in
theorem mayBe (u : Upd) (w : World) : Calls Tryz.prog 56 #[u.val] w fun z w' => z = .returned (.bool u.may) ∧ Kept (fun _ => False) w w' := by
  obtain ⟨kd, key, x, y, fin, has, a, n, c⟩ := u
  obtain ⟨W, hW⟩ : ∃ W, W = (w.alloc (.cells #[.int .i64 kd, .string key, .int .i64 x, .int .i64 y, .bool fin, .bool has, .slice a n c] 44)).alloc (.cells #[.int .i64 x, .int .i64 y, .bool fin, .bool has, .slice a n c] 40) := ⟨_, rfl⟩
  have b1 : W.heap[w.heap.size]? = some (.cells #[.int .i64 kd, .string key, .int .i64 x, .int .i64 y, .bool fin, .bool has, .slice a n c] 44 (0, 0)) := by rw [hW]; exact two0 _ _ _
  have b2 : W.heap[w.heap.size + 1]? = some (.cells #[.int .i64 x, .int .i64 y, .bool fin, .bool has, .slice a n c] 40 (0, 0)) := by rw [hW]; exact two1 _ _ _
  have H : Hid (Kept (fun _ => False) w W) := by rw [hW]; exact ((Kept.refl _ w).alloc _).alloc _
  have EW : Hid (W = (w.alloc (.cells #[.int .i64 kd, .string key, .int .i64 x, .int .i64 y, .bool fin, .bool has, .slice a n c] 44)).alloc (.cells #[.int .i64 x, .int .i64 y, .bool fin, .bool has, .slice a n c] 40)) := hW
  have HB : Hid (W.heap[w.heap.size]? = some (.cells #[.int .i64 kd, .string key, .int .i64 x, .int .i64 y, .bool fin, .bool has, .slice a n c] 44 (0, 0)) ∧ W.heap[w.heap.size + 1]? = some (.cells #[.int .i64 x, .int .i64 y, .bool fin, .bool has, .slice a n c] 40 (0, 0))) := ⟨b1, b2⟩
  have c0 := cell_blk b1 1 (v := .string key) rfl
  have c1 := cell_blk b2 0 (v := .int .i64 x) rfl
  have c2 := cell_blk b2 1 (v := .int .i64 y) rfl
  have FK : Hid (∀ V, Calls Tryz.prog 81 #[.agg #[.int .i64 kd, .string key, .int .i64 x, .int .i64 y, .bool fin, .bool has, .slice a n c]] V fun z w' => z = .returned (.bool (Upd.fits ⟨kd, key, x, y, fin, has, a, n, c⟩)) ∧ Kept (fun _ => False) V w') := fun V => fitsKind ⟨kd, key, x, y, fin, has, a, n, c⟩ V
  unfold Upd.may Upd.val
  dsimp only
  generalize Upd.fits ⟨kd, key, x, y, fin, has, a, n, c⟩ = ft at FK ⊢
  clear hW b1 b2
  go_enter Tryz.func56, Tryz.ntmps56
  go_upto_region 2 with fail
  rw [← EW.out]
  go_wp2_with fail
  refine (isKey key W).mono ?_
  rintro o w1 ⟨rfl, e1⟩
  subst e1
  cases hk : keyB key
  · go_wp2_with fail
    go_ret
    exact ⟨by rw [hk]; simp, H.out⟩
  · go_wp2_with fail
    refine (valid x y w1).mono ?_
    rintro o w2 ⟨rfl, B2⟩
    have K2 : Hid (Kept (fun _ => False) w w2 ∧ w2.heap[w.heap.size]? = some (.cells #[.int .i64 kd, .string key, .int .i64 x, .int .i64 y, .bool fin, .bool has, .slice a n c] 44 (0, 0)) ∧ w2.heap[w.heap.size + 1]? = some (.cells #[.int .i64 x, .int .i64 y, .bool fin, .bool has, .slice a n c] 40 (0, 0))) := ⟨H.out.and0 (k0_of B2), (k0_of B2).get HB.out.1 (fun z => z), (k0_of B2).get HB.out.2 (fun z => z)⟩
    have d1 := cell_blk K2.out.2.2 0 (v := .int .i64 x) rfl
    have d2 := cell_blk K2.out.2.2 1 (v := .int .i64 y) rfl
    clear B2 c0 c1 c2
    obtain ⟨vb, hvb⟩ : ∃ vb, (isZero x y || isProper x y) = vb := ⟨_, rfl⟩
    rw [hvb]
    cases vb
    · go_wp2_with fail
      go_ret
      exact ⟨by rw [hvb]; simp, K2.out.1⟩
    · go_wp2_with fail
      refine (zero x y w2).mono ?_
      rintro o w3 ⟨rfl, B3⟩
      have K3 : Hid (Kept (fun _ => False) w w3 ∧ w3.heap[w.heap.size]? = some (.cells #[.int .i64 kd, .string key, .int .i64 x, .int .i64 y, .bool fin, .bool has, .slice a n c] 44 (0, 0)) ∧ w3.heap[w.heap.size + 1]? = some (.cells #[.int .i64 x, .int .i64 y, .bool fin, .bool has, .slice a n c] 40 (0, 0))) := ⟨K2.out.1.and0 (k0_of B3), (k0_of B3).get K2.out.2.1 (fun z => z), (k0_of B3).get K2.out.2.2 (fun z => z)⟩
      have e4 := cell_blk K3.out.2.2 4 (v := .slice a n c) rfl
      have g0 := cell_blk K3.out.2.1 0 (v := .int .i64 kd) rfl
      have g1 := cell_blk K3.out.2.1 1 (v := .string key) rfl
      have g2 := cell_blk K3.out.2.1 2 (v := .int .i64 x) rfl
      have g3 := cell_blk K3.out.2.1 3 (v := .int .i64 y) rfl
      have g4 := cell_blk K3.out.2.1 4 (v := .bool fin) rfl
      have g5 := cell_blk K3.out.2.1 5 (v := .bool has) rfl
      have g6 := cell_blk K3.out.2.1 6 (v := .slice a n c) rfl
      clear B3 d1 d2
      obtain ⟨zb, hzb⟩ : ∃ zb, isZero x y = zb := ⟨_, rfl⟩
      rw [hzb]
      cases zb
      · by_cases hn : (n : Int) ≤ 65540
        · go_wp2_with fail
          refine (FK.out w3).mono ?_
          rintro o w4 ⟨rfl, K4⟩
          have H4 : Hid (Kept (fun _ => False) w w4) := K3.out.1.and0 K4
          clear K4
          go_wp2_with fail
          go_ret
          exact ⟨by rw [hk, hvb, hzb]; simp; omega, H4.out⟩
        · go_wp2_with fail
          go_ret
          have hn' : ¬ n ≤ 65540 := by omega
          exact ⟨by simp [hn'], K3.out.1⟩
      · go_wp2_with fail
        go_ret
        exact ⟨by first | (rw [hk, hvb, hzb]; simp) | simp [hzb], K3.out.1⟩
end Go.Proofs.YtojepeefphbekaaGreat
