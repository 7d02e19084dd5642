import Derived.Test.YtbangbobfeflcaaDoorGen
import Derived.Maps.RangeWalk
import Derived.Maps.OwnSet
namespace Go.Proofs.YtbangbobfeflcaaDoor
open Go.RowKit 

/-- What is known of a kind of maps: its keys, its elements. -/
structure MK {κ ε : Type} (T K E : TypeId) (kv : κ → Value) (kl : κ → Lit) (KF : κ → Prop) (ev : ε → Value) (z : ε) (RD : Value → Option (DataW Value × List MemPlace)) : Prop where
  law : Maps.Keyed Tryd.prog K
  und : Tryd.prog.underlying T = some (.map K E)
  key : ∀ k, KF k → keyOf Tryd.prog K (kv k) = some (kl k)
  inv : ∀ v l, keyOf Tryd.prog K v = some l → ∃ k, v = kv k ∧ KF k ∧ l = kl k
  inj : ∀ k k', KF k → KF k' → kl k = kl k' → k = k'
  kvi : ∀ k k', kv k = kv k' → k = k'
  rd : ∀ e, RD (ev e) = some (.held (ev e), [])
  rdi : ∀ v y, RD v = some y → (∃ e, v = ev e) ∧ y = (.held v, [])
  evi : ∀ e e', ev e = ev e' → e = e'
  zero : ∀ w, (zeroValue E).run Tryd.prog w = .ok (ev z) w
def upd {κ ε : Type} [DecidableEq κ] (M : κ → Option ε) (k : κ) (e : ε) : κ → Option ε := fun j => if j = k then some e else M j
/-- The datum says what the function says. -/
def Says {κ ε : Type} (kl : κ → Lit) (KF : κ → Prop) (ev : ε → Value) (D : DataW Value) (M : κ → Option ε) : Prop :=
  (∀ k, KF k → ∀ d, D.atKey (kl k) d = ((M k).map fun e => DataW.held (ev e)).getD d) ∧ ∀ k e, M k = some e → KF k
/-- Block b is a map of n entries that holds just this. -/
def TM {κ ε : Type} (K : TypeId) (kl : κ → Lit) (KF : κ → Prop) (ev : ε → Value) (RD : Value → Option (DataW Value × List MemPlace)) (w : World) (b n : Nat) (M : κ → Option ε) : Prop :=
  ∃ D, w.ownsMap Tryd.prog K RD b n D ∧ Says kl KF ev D M ∧ Maps.size D = n
/-- A map that is gone through: what is left. -/
def RG {κ ε : Type} (K : TypeId) (kl : κ → Lit) (KF : κ → Prop) (ev : ε → Value) (RD : Value → Option (DataW Value × List MemPlace)) (w : World) (b r n : Nat) (M : κ → Option ε) (L : κ → Prop) (cnt : Nat) : Prop :=
  ∃ D left, w.ranges Tryd.prog K RD b r n D left cnt ∧ (Says kl KF ev D M ∧ Maps.size D = n) ∧ ∀ k, KF k → (left (kl k) = true ↔ L k)
section
variable {κ ε : Type} {T K E : TypeId} {kv : κ → Value} {kl : κ → Lit} {KF : κ → Prop} {ev : ε → Value} {z : ε} {RD : Value → Option (DataW Value × List MemPlace)}
theorem Says.has {D : DataW Value} {M : κ → Option ε} (h : Says kl KF ev D M) {k : κ} (hk : KF k) : Maps.has D (kl k) = (M k).isSome := by
  have h1 := h.1 k hk
  cases hm : M k with
  | none =>
    rw [hm] at h1
    exact Maps.has_false_of_atKey h1
  | some e =>
    rw [hm] at h1
    exact Maps.has_true_of_atKey h1
theorem TM.lt {w : World} {b n : Nat} {M : κ → Option ε} (h : TM K kl KF ev RD w b n M) : b < w.heap.size := let ⟨_, h1, _⟩ := h; h1.lt
theorem TM.kept {S : Nat → Prop} {w w' : World} {b n : Nat} {M : κ → Option ε} (h : TM K kl KF ev RD w b n M) (Kp : Kept S w w') (hn : ¬ S b) : TM K kl KF ev RD w' b n M := by
  obtain ⟨D, ⟨es, clock, hb, r⟩, s⟩ := h
  exact ⟨D, ⟨es, clock, Kp.get hb hn, r⟩, s⟩
theorem TM.made (w : World) : TM K kl KF ev RD (w.alloc (.map #[] 0)) w.heap.size 0 (fun _ : κ => (none : Option ε)) :=
  ⟨.map [], World.ownsMap_made w _ _ _, ⟨fun _ _ _ => rfl, fun _ _ h => by cases h⟩, rfl⟩
/-- 'm[k]'. -/
theorem TM.look (X : MK T K E kv kl KF ev z RD) {w : World} {b n : Nat} {M : κ → Option ε} (h : TM K kl KF ev RD w b n M) {k : κ} (hk : KF k) : (Instr.lookup T (.map (some b)) (kv k) false).run Tryd.prog w = .ok (ev ((M k).getD z)) w := by
  obtain ⟨D, h, s, _⟩ := h
  obtain ⟨v, ps, h1, h2⟩ := h.lookup X.law X.und (X.zero w) (X.rd z) (X.key k hk)
  rw [h1, s.1 k hk] at *
  have h3 := (X.rdi v _ h2).2
  cases hm : M k with
  | none => rw [hm] at h3; simp at h3; rw [← h3.1]; rfl
  | some e => rw [hm] at h3; simp at h3; rw [← h3.1]; rfl
/-- 'v, ok := m[k]'. -/
theorem TM.look2 (X : MK T K E kv kl KF ev z RD) {w : World} {b n : Nat} {M : κ → Option ε} (h : TM K kl KF ev RD w b n M) {k : κ} (hk : KF k) : (Instr.lookup T (.map (some b)) (kv k) true).run Tryd.prog w = .ok (.tuple #[ev ((M k).getD z), .bool (M k).isSome]) w := by
  obtain ⟨D, ⟨es, clock, hb, F, hs, rfl⟩, s, _⟩ := h
  rcases Maps.fit_look true X.law X.und (X.zero w) hb F (X.key k hk) with ⟨h1, _, h2⟩ | ⟨e0, y, _, _, h1, h2, h3, _⟩
  · have hm : M k = none := by
      cases hm : M k with
      | none => rfl
      | some e =>
        have q := s.1 k hk (.lit (.bool true))
        rw [h2, hm] at q
        simp at q
    rw [h1, hm]
    rfl
  · obtain ⟨⟨e, he⟩, hy⟩ := X.rdi _ _ h2
    cases hm : M k with
    | none =>
      have q := s.1 k hk (.lit (.bool true))
      rw [h3, hm, hy] at q
      simp at q
    | some e' =>
      have q := s.1 k hk (.lit (.bool true))
      rw [h3, hm, hy] at q
      simp at q
      rw [h1, q]
      rfl
/-- 'm[k] = v'. -/
theorem Says.put [DecidableEq κ] (X : MK T K E kv kl KF ev z RD) {D : DataW Value} {M : κ → Option ε} (h : Says kl KF ev D M) (hD : Maps.IsMap D) {k : κ} (hk : KF k) (e : ε) : Says kl KF ev (D.put (kl k) (.held (ev e))) (upd M k e) := by
  refine ⟨fun j hj d => ?_, fun j e' he => ?_⟩
  · unfold upd
    by_cases ej : j = k
    · rw [if_pos ej, ej]
      exact Maps.atKey_put_same hD (X.law.key (X.key k hk)) _ _
    · rw [if_neg ej, Maps.atKey_put_other (fun q => ej (X.inj j k hj hk q))]
      exact h.1 j hj d
  · unfold upd at he
    by_cases ej : j = k
    · rw [ej]; exact hk
    · rw [if_neg ej] at he
      exact h.2 j e' he
/-- A map's bound is its size. -/
theorem owns_size {w : World} {b n : Nat} {D : DataW Value} (h : w.ownsMap Tryd.prog K RD b n D) : w.ownsMap Tryd.prog K RD b (Maps.size D) D := by
  obtain ⟨es, clock, hb, F, hs, e⟩ := h
  refine ⟨es, clock, hb, F, ?_, e⟩
  rw [e, Maps.size_eq, length_sorted]
  simp
theorem TM.len (X : MK T K E kv kl KF ev z RD) {w : World} {b n : Nat} {M : κ → Option ε} (h : TM K kl KF ev RD w b n M) (ty : TypeId) : (Builtin.len_ #[T] ty #[.map (some b)]).run Tryd.prog w = .ok (.int .i64 (n : Int)) w := by
  obtain ⟨D, h, _, e⟩ := h
  rw [← e]
  exact h.len X.und ty
/-- How many there are behind 'm[k] = v'. -/
def nput {κ ε : Type} (n : Nat) (M : κ → Option ε) (k : κ) : Nat := if (M k).isSome then n else n + 1
theorem TM.put [DecidableEq κ] (X : MK T K E kv kl KF ev z RD) {w w' : World} {b n : Nat} {M : κ → Option ε} {D : DataW Value} (o : w.ownsMap Tryd.prog K RD b n D) (s : Says kl KF ev D M) (e0 : Maps.size D = n) {k : κ} (hk : KF k) (e : ε) (h : w'.ownsMap Tryd.prog K RD b (n + 1) (D.put (kl k) (.held (ev e)))) : TM K kl KF ev RD w' b (nput n M k) (upd M k e) := by
  have e1 : Maps.size (D.put (kl k) (.held (ev e))) = nput n M k := by
    rw [Maps.size_put (o.tidy X.law), s.has hk, e0]
    rfl
  have := owns_size h
  rw [e1] at this
  exact ⟨_, this, s.put X o.isMap hk e, e1⟩
theorem wpList_put [DecidableEq κ] (X : MK T K E kv kl KF ev z RD) (w : World) {ops : Array Oper} {rest : List Oper} {o : Oper} {a : Act} {Q : Exit → Act → World → Prop} (hg : o.guard = none) (m x v : Operand) (hop : o.op = Op.mapUpdate T m x v) (b n : Nat) (M : κ → Option ε)
    (hm : a.eval m = .map (some b)) (h : TM K kl KF ev RD w b n M) (hn : n < maxLen) (k : κ) (hk : KF k) (e : ε) (hx : a.eval x = kv k) (hv : a.eval v = ev e)
    (hK : ∀ w', Hid (TM K kl KF ev RD w' b (nput n M k) (upd M k e)) → Hid (Kept (fun j => j = b) w w') → wpList Tryd.prog ops Q rest (a.put o.dst undef) w') : wpList Tryd.prog ops Q (o :: rest) a w := by
  obtain ⟨D, h, s, e0⟩ := h
  refine wpList_mapUpdate_own w hg m x v T hop K E X.law X.und RD b n D hm h hn (kv k) (ev e) (kl k) hx hv (X.key k hk) _ [] (X.rd e) (fun w' h1 hgr => hK w' (TM.put X h s e0 hk e h1) ((Kept.refl _ w).grown hgr (fun j _ q => by simp at q; exact q.symm)))
/-- 'range m'. -/
theorem wpList_rng (X : MK T K E kv kl KF ev z RD) (w : World) {ops : Array Oper} {rest : List Oper} {o : Oper} {a : Act} {Q : Exit → Act → World → Prop} (hg : o.guard = none) (m : Operand) (hop : o.op = Op.range T m) (b n : Nat) (M : κ → Option ε)
    (hm : a.eval m = .map (some b)) (h : TM K kl KF ev RD w b n M)
    (hK : ∀ w', Hid (∃ cnt, RG K kl KF ev RD w' b w.heap.size n M (fun k => M k ≠ none) cnt) → Hid (Kept (fun _ => False) w w') → Hid (w'.heap.size = w.heap.size + 1) → wpList Tryd.prog ops Q rest (a.put o.dst (.pointer (some ⟨w.heap.size, 0, none⟩))) w') : wpList Tryd.prog ops Q (o :: rest) a w := by
  obtain ⟨D, h, s, e0⟩ := h
  refine wpList_range_own w hg m T hop K E X.law X.und RD b n D hm h (fun w' h1 hgr hsz => hK w' ⟨_, D, _, h1, ⟨s, e0⟩, fun k hk => ?_⟩ ((Kept.refl _ w).grown hgr (fun j _ q => by simp at q)) hsz)
  rw [s.has hk]
  show (M k).isSome = true ↔ M k ≠ none
  cases M k <;> simp
theorem RG.tm {w : World} {b r n : Nat} {M : κ → Option ε} {L : κ → Prop} {cnt : Nat} (h : RG K kl KF ev RD w b r n M L cnt) : TM K kl KF ev RD w b n M := by
  obtain ⟨D, left, h, s, _⟩ := h
  exact ⟨D, h.owns, s.1, s.2⟩
theorem RG.left_eq {w : World} {b r n : Nat} {M : κ → Option ε} {L : κ → Prop} {cnt : Nat} (h : RG K kl KF ev RD w b r n M L cnt) : w.rangeLeft b r = cnt := by
  obtain ⟨D, left, h, s, _⟩ := h
  exact h.left_eq
theorem RG.lt {w : World} {b r n : Nat} {M : κ → Option ε} {L : κ → Prop} {cnt : Nat} (h : RG K kl KF ev RD w b r n M L cnt) : r < w.heap.size ∧ r ≠ b := by
  obtain ⟨D, left, h, s, _⟩ := h
  exact ⟨h.lt, h.ne⟩
theorem RG.kept {S : Nat → Prop} {w w' : World} {b r n : Nat} {M : κ → Option ε} {L : κ → Prop} {cnt : Nat} (h : RG K kl KF ev RD w b r n M L cnt) (Kp : Kept S w w') (hb : ¬ S b) (hr : ¬ S r) : RG K kl KF ev RD w' b r n M L cnt := by
  obtain ⟨D, left, h, s, hl⟩ := h
  refine ⟨D, left, ?_, s, hl⟩
  obtain ⟨es, clock, since, seen, c0, h1, h2, h3, h4, h5, h6⟩ := h
  exact ⟨es, clock, since, seen, c0, Kp.get h1 hb, h2, h3, h4, Kp.get h5 hr, h6⟩
/-- The next entry. -/
theorem wpList_nxt (X : MK T K E kv kl KF ev z RD) (w : World) {ops : Array Oper} {rest : List Oper} {o : Oper} {a : Act} {Q : Exit → Act → World → Prop} (hg : o.guard = none) (it : Operand) (hop : o.op = Op.next it false) (b r n : Nat) (M : κ → Option ε) (L : κ → Prop) (cnt : Nat)
    (hit : a.eval it = .pointer (some ⟨r, 0, none⟩)) (h : RG K kl KF ev RD w b r n M L cnt)
    (hDone : Hid (∀ k, KF k → ¬ L k) → wpList Tryd.prog ops Q rest (a.put o.dst (.tuple #[.bool false])) w)
    (hMore : ∀ (k : κ) (e : ε) (w' : World) (cnt' : Nat), Hid (KF k ∧ L k ∧ M k = some e) → Hid (RG K kl KF ev RD w' b r n M (fun j => L j ∧ j ≠ k) cnt') → Hid (cnt' < cnt) → Hid (Kept (fun j => j = r) w w') →
      (Instr.entry (.pointer (some ⟨r, 0, none⟩))).run Tryd.prog w' = .ok (.tuple #[kv k, ev e]) w' → wpList Tryd.prog ops Q rest (a.put o.dst (.tuple #[.bool true, kv k, ev e])) w') : wpList Tryd.prog ops Q (o :: rest) a w := by
  obtain ⟨D, left, h, s, hl⟩ := h
  refine wpList_next_ranges w hg it hop K X.law RD kv ev (fun key l hk => by obtain ⟨k, e, _⟩ := X.inv key l hk; exact ⟨k, e⟩) (fun v y hv => (X.rdi v y hv).1) b r n D left cnt hit h (fun _ h2 => hDone (fun k hk hL => ?_)) (fun k e l y w' cnt' h1 h2 h3 h4 h5 h6 h7 h8 h9 => ?_)
  · have := (hl k hk).2 hL
    rw [h2] at this
    cases this
  · obtain ⟨k', e1, hk, rfl⟩ := X.inv _ _ h1
    have := X.kvi _ _ e1
    subst this
    have hy := (X.rdi _ _ h3).2
    have hm : M k = some e := by
      have q := s.1.1 k hk (.lit (.bool true))
      rw [h4, hy] at q
      cases hm : M k with
      | none => rw [hm] at q; simp at q
      | some e' => rw [hm] at q; simp at q; rw [X.evi _ _ q]
    refine hMore k e w' cnt' ⟨hk, (hl k hk).1 h2, hm⟩ ⟨D, _, h5, s, fun j hj => ?_⟩ h6 ((Kept.refl _ w).grown h7 (fun i _ q => by simp at q; exact q.symm)) h9
    by_cases ej : j = k
    · subst ej
      have e2 : (kl j).sameKey (kl j) = true := WideAt.sameKey_self (X.law.key (X.key j hj))
      simp [e2]
    · have e2 : (kl j).sameKey (kl k) = false := Maps.sameKey_ne (fun q => ej (X.inj j k hj hk q))
      simp [e2, ej]
      exact hl j hj
end
theorem RG.cnt_le {κ ε : Type} {K : TypeId} {kl : κ → Lit} {KF : κ → Prop} {ev : ε → Value} {RD : Value → Option (DataW Value × List MemPlace)} {w : World} {b r n : Nat} {M : κ → Option ε} {L : κ → Prop} {cnt : Nat} (h : RG K kl KF ev RD w b r n M L cnt) : cnt ≤ n := by
  obtain ⟨D, left, ⟨es, clock, since, seen, c0, _, _, h3, _, _, _, h7, _⟩, _⟩ := h
  have : (leftOf es seen).size ≤ es.size := by unfold leftOf; exact Array.size_filter_le
  omega
end Go.Proofs.YtbangbobfeflcaaDoor

namespace Go.Proofs.YtbangbobfeflcaaDoor
open Go.RowKit 

/-- An event, with the bytes that it leads to. -/
structure Ev where
  kind : Int
  client : Int
  op : Int
  put : Bool
  key : ByteArray
  va : Option Addr
  vn : Nat
  vc : Nat
  st : Int
  tx : Int
  ty : Int
  val : List Nat
def Ev.cs (e : Ev) : Array Value := #[.int .i64 e.kind, .int .i64 e.client, .int .i64 e.op, .bool e.put, .string e.key, .slice e.va e.vn e.vc, .int .i64 e.st, .int .i64 e.tx, .int .i64 e.ty]
def Ev.agg (e : Ev) : Value := .agg #[.int .i64 e.kind, .int .i64 e.client, .int .i64 e.op, .bool e.put, .string e.key, .slice e.va e.vn e.vc, .int .i64 e.st, .int .i64 e.tx, .int .i64 e.ty]
/-- A list of events reads so. -/
structure ERd (w : World) (p : Option Addr) (n c : Nat) (es : List Ev) : Prop where
  len : es.length = n
  room : n ≤ c
  small : c ≤ maxLen
  cells : 0 < n → ∃ b off, p = some ⟨b, off, none⟩ ∧ ∀ i (h : i < es.length) k v, es[i].cs[k]? = some v → w.cell? ⟨b, off + i * 9 + k, none⟩ = some v
  rd : ∀ e ∈ es, Reads w e.va e.vn e.vc e.val
theorem ERd.at {w : World} {p : Option Addr} {n c : Nat} {es : List Ev} (h : ERd w p n c es) {i : Nat} (hi : i < n) : ∃ b off e, p = some ⟨b, off, none⟩ ∧ es[i]? = some e ∧ w.cell? ⟨b, off + i * 9, none⟩ = some (.int .i64 e.kind) ∧ w.cell? ⟨b, off + i * 9 + 1, none⟩ = some (.int .i64 e.client) ∧ w.cell? ⟨b, off + i * 9 + 2, none⟩ = some (.int .i64 e.op) ∧ w.cell? ⟨b, off + i * 9 + 3, none⟩ = some (.bool e.put) ∧ w.cell? ⟨b, off + i * 9 + 4, none⟩ = some (.string e.key) ∧ w.cell? ⟨b, off + i * 9 + 5, none⟩ = some (.slice e.va e.vn e.vc) ∧ w.cell? ⟨b, off + i * 9 + 6, none⟩ = some (.int .i64 e.st) ∧ w.cell? ⟨b, off + i * 9 + 7, none⟩ = some (.int .i64 e.tx) ∧ w.cell? ⟨b, off + i * 9 + 8, none⟩ = some (.int .i64 e.ty) ∧ Reads w e.va e.vn e.vc e.val := by
  obtain ⟨b, off, e, hc⟩ := h.cells (by omega)
  have hi2 : i < es.length := by rw [h.len]; exact hi
  exact ⟨b, off, es[i], e, List.getElem?_eq_getElem hi2, hc i hi2 0 _ rfl, hc i hi2 1 _ rfl, hc i hi2 2 _ rfl, hc i hi2 3 _ rfl, hc i hi2 4 _ rfl, hc i hi2 5 _ rfl, hc i hi2 6 _ rfl, hc i hi2 7 _ rfl, hc i hi2 8 _ rfl, h.rd _ (List.getElem_mem hi2)⟩
theorem ERd.k0 {w w' : World} {p : Option Addr} {n c : Nat} {es : List Ev} (h : ERd w p n c es) (K : Kept (fun _ => False) w w') : ERd w' p n c es := by
  refine ⟨h.len, h.room, h.small, fun h0 => ?_, fun e he => Reads.kept K (h.rd e he) (fun _ _ z => z)⟩
  obtain ⟨b, off, e, hc⟩ := h.cells h0
  exact ⟨b, off, e, fun i hi k v hv => K.cell (hc i hi k v hv) (fun z => z)⟩
def kIsProper (a b : Int) : Bool := decide (1 ≤ a ∧ a ≤ 4611686018427387903 ∧ 1 ≤ b ∧ b ≤ 65535)
def kIsZero (a b : Int) : Bool := decide (a = 0 ∧ b = 0)
/-- What stands behind the key in an event's line: nothing 0, a value 1, a tag 2, both 3, a status and a tag 4. -/
def formR (st : Int) (pu : Bool) : Int := if st = 0 then (if pu = true then 2 else 3) else if st = 76 ∨ st = 42 then 0 else 4
def formE (e : Ev) : Int := if e.kind = 1 then (if e.put = true then 1 else 0) else if e.kind = 3 then (if e.put = true then 2 else 0) else if e.kind = 2 then formR e.st e.put else 0
def valueE (e : Ev) : Bool := if formE e = 1 ∨ formE e = 3 then decide (e.vn ≤ 65536) else decide (e.vn = 0)
def tagE (e : Ev) : Bool := if formE e = 0 ∨ formE e = 1 then kIsZero e.tx e.ty else (kIsZero e.tx e.ty || kIsProper e.tx e.ty) && !(decide (e.kind = 2) && decide (e.st = 0) && kIsZero e.tx e.ty)
def statusE (e : Ev) : Bool := if e.st = 0 then true else if e.kind ≠ 2 then false else if e.put = true then decide (e.st = 42) else (decide (e.st = 76) || (decide (20 ≤ e.st) && decide (e.st ≤ 26)))
/-- What is wrong with an event by itself. -/
def faultE (e : Ev) : Int :=
  if ¬ (e.kind = 1 ∨ e.kind = 2 ∨ e.kind = 3) then 32
  else if e.client < 1 ∨ 65535 < e.client then 51
  else if e.key.size < 1 ∨ 64 < e.key.size then 74
  else if valueE e = false then 75
  else if tagE e = false then 41
  else if e.op < 1 ∨ 4611686018427387903 < e.op ∨ statusE e = false then 80 else 0
/-- May it stand behind its client's last one? -/
def mayF (l : Option Ev) (e : Ev) : Bool :=
  let busy := match l with | some x => decide (x.kind = 1) | none => false
  let lop := match l with | some x => x.op | none => 0
  if e.kind = 1 then !busy && decide (e.op = lop + 1)
  else match l with | some x => busy && decide (e.op = x.op) && decide (e.put = x.put) && decide (e.key = x.key) | none => false
/-- The first event that can't stand where it stands. -/
def chkE : List Ev → (Int → Option Ev) → Nat → Int × Int
  | [], _, _ => (-1, 0)
  | e :: es, M, i => if faultE e ≠ 0 then ((i : Int), faultE e) else if mayF (M e.client) e = false then ((i : Int), 80) else chkE es (upd M e.client e) (i + 1)
theorem chk_cons (e : Ev) (es : List Ev) (M : Int → Option Ev) (i : Nat) : chkE (e :: es) M i = if faultE e ≠ 0 then ((i : Int), faultE e) else if mayF (M e.client) e = false then ((i : Int), 80) else chkE es (upd M e.client e) (i + 1) := rfl
theorem chk_no {i : Nat} {v : Int} (h : ((i : Int), v) = (-1, 0)) : False := by
  injection h with h1 _
  omega
/-- The last ones by client. -/
def lastM : List Ev → (Int → Option Ev) → Int → Option Ev
  | [], M => M
  | e :: es, M => lastM es (upd M e.client e)
theorem lastM_app : ∀ (a b : List Ev) (M : Int → Option Ev), lastM (a ++ b) M = lastM b (lastM a M)
  | [], _, _ => rfl
  | _ :: a, b, _ => lastM_app a b _
theorem chk_app : ∀ (a b : List Ev) (M : Int → Option Ev) (i : Nat), chkE a M i = (-1, 0) → chkE (a ++ b) M i = chkE b (lastM a M) (i + a.length)
  | [], _, _, _, _ => rfl
  | e :: a, b, M, i, h => by
    rw [chk_cons] at h
    rw [List.cons_append, chk_cons]
    by_cases h1 : faultE e ≠ 0
    · rw [if_pos h1] at h
      exact (chk_no h).elim
    · rw [if_neg h1] at h ⊢
      by_cases h2 : mayF (M e.client) e = false
      · rw [if_pos h2] at h
        exact (chk_no h).elim
      · rw [if_neg h2] at h ⊢
        rw [chk_app a b _ _ h, List.length_cons, show i + 1 + a.length = i + (a.length + 1) by omega]
        rfl
theorem chk_pre : ∀ (a b : List Ev) (M : Int → Option Ev) (i : Nat), chkE (a ++ b) M i = (-1, 0) → chkE a M i = (-1, 0)
  | [], _, _, _, _ => rfl
  | e :: a, b, M, i, h => by
    rw [List.cons_append] at h
    rw [chk_cons] at h ⊢
    by_cases h1 : faultE e ≠ 0
    · rw [if_pos h1] at h
      exact (chk_no h).elim
    · rw [if_neg h1] at h ⊢
      by_cases h2 : mayF (M e.client) e = false
      · rw [if_pos h2] at h
        exact (chk_no h).elim
      · rw [if_neg h2] at h ⊢
        exact chk_pre a b _ _ h
theorem chk_any : ∀ (es : List Ev) (M : Int → Option Ev) (i : Nat), (∀ e ∈ es, faultE e = 0) → chkE es M i = (-1, 0) ∨ ∃ j : Nat, i ≤ j ∧ chkE es M i = ((j : Int), 80)
  | [], _, _, _ => .inl rfl
  | e :: es, M, i, h => by
    rw [chk_cons, if_neg (by rw [h e (by simp)]; simp)]
    by_cases h2 : mayF (M e.client) e = false
    · rw [if_pos h2]
      exact .inr ⟨i, Nat.le_refl _, rfl⟩
    · rw [if_neg h2]
      rcases chk_any es (upd M e.client e) (i + 1) (fun x hx => h x (List.mem_cons_of_mem _ hx)) with z | ⟨j, h1, z⟩
      · exact .inl z
      · exact .inr ⟨j, by omega, z⟩
theorem mayF_twice (M : Int → Option Ev) (e : Ev) : mayF (upd M e.client e e.client) e = false := by
  unfold upd
  rw [if_pos rfl]
  unfold mayF
  by_cases h : e.kind = 1 <;> simp [h]
theorem upd_twice (M : Int → Option Ev) (e : Ev) : upd (upd M e.client e) e.client e = upd M e.client e := by
  funext j
  unfold upd
  by_cases h : j = e.client <;> simp [h]
/-- An event that stands twice: its second standing is told. -/
theorem chk_twice {a b : List Ev} {e : Ev} (h : chkE (a ++ e :: b) (fun _ => none) 0 = (-1, 0)) : chkE (a ++ e :: e :: b) (fun _ => none) 0 = (((a.length + 1 : Nat) : Int), 80) := by
  have ha := chk_pre a (e :: b) _ _ h
  rw [chk_app a (e :: b) _ _ ha] at h
  rw [chk_app a (e :: e :: b) _ _ ha]
  rw [chk_cons] at h ⊢
  by_cases h1 : faultE e ≠ 0
  · rw [if_pos h1] at h
    exact (chk_no h).elim
  · rw [if_neg h1] at h ⊢
    by_cases h2 : mayF (lastM a (fun _ => none) e.client) e = false
    · rw [if_pos h2] at h
      exact (chk_no h).elim
    · rw [if_neg h2]
      rw [chk_cons, if_neg h1, if_pos (mayF_twice _ e)]
      simp
/-- An event that is left out: what can't stand comes behind it. -/
theorem chk_less {a b : List Ev} {e : Ev} (h : chkE (a ++ e :: b) (fun _ => none) 0 = (-1, 0)) (hf : ∀ x ∈ b, faultE x = 0) : chkE (a ++ b) (fun _ => none) 0 = (-1, 0) ∨ ∃ j : Nat, a.length ≤ j ∧ chkE (a ++ b) (fun _ => none) 0 = ((j : Int), 80) := by
  have ha := chk_pre a (e :: b) _ _ h
  rw [chk_app a b _ _ ha]
  rcases chk_any b (lastM a fun _ => none) (0 + a.length) hf with z | ⟨j, h1, z⟩
  · exact .inl z
  · exact .inr ⟨j, by omega, z⟩
theorem chk_fault : ∀ (es : List Ev) (M : Int → Option Ev) (i : Nat), chkE es M i = (-1, 0) → ∀ e ∈ es, faultE e = 0
  | [], _, _, _, e, he => by cases he
  | x :: es, M, i, h, e, he => by
    rw [chk_cons] at h
    by_cases h1 : faultE x ≠ 0
    · rw [if_pos h1] at h
      exact (chk_no h).elim
    · rw [if_neg h1] at h
      by_cases h2 : mayF (M x.client) x = false
      · rw [if_pos h2] at h
        exact (chk_no h).elim
      · rw [if_neg h2] at h
        rcases List.mem_cons.1 he with z | z
        · rw [z]
          exact Classical.not_not.1 h1
        · exact chk_fault es _ _ h e z
def noM : Int → Option Ev := fun _ => none
end Go.Proofs.YtbangbobfeflcaaDoor
