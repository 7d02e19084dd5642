import Derived.Test.YtbangbobfeflcaaGreatDoorBase
import Derived.Deep.RegionHeldLaw
import Derived.Maps.RangeWalk
import Derived.Maps.OwnSet
namespace Go.Proofs.YtbangbobfeflcaaGreatDoor
open Go.RowKit

theorem owns_mono {w : World} {b b' : Nat} {e : TypeId} {s : Nat} {v : Value} {n : Nat} {xs : List Value} (h : w.ownsRow b e s v n xs) (hb : b' ≤ b) : w.ownsRow b' e s v n xs := by
  refine ⟨h.1, ?_⟩
  rcases h.2 with q | ⟨g, cap, cur, e0, h1, rest⟩
  · exact .inl q
  · exact .inr ⟨g, cap, cur, e0, Nat.le_trans hb h1, rest⟩
theorem kept_below {w w' : World} (B : Below w.heap.size w w') : Kept (fun _ => False) w w' := ⟨B.os, B.tape, B.output, B.size, fun k hk _ => B.block k hk⟩
theorem below_kept {w w' : World} (K : Kept (fun _ => False) w w') : Below w.heap.size w w' := ⟨K.os, K.tape, K.output, K.size, fun k hk => K.block k hk (fun q => q)⟩
def blockOf (a : Option Addr) : Option Nat := a.map (·.block)
theorem blockOf_own (a : Option Addr) (n c : Nat) : (Value.slice a n c).ownBlock = blockOf a := by cases a <;> rfl
theorem own_lt {w : World} {base : Nat} {e : TypeId} {s : Nat} {a : Option Addr} {n c : Nat} {xs : List Value} (h : w.ownsRow base e s (.slice a n c) n xs) : ∀ k, blockOf a = some k → base ≤ k ∧ k < w.heap.size := fun k hk => h.lt k (by rw [blockOf_own]; exact hk)
theorem own_type {w : World} {base : Nat} {e : TypeId} {s : Nat} {a : Option Addr} {n c : Nat} {xs : List Value} (h : w.ownsRow base e s (.slice a n c) n xs) : ∀ k, blockOf a = some k → ∃ cs, w.heap[k]? = some (.cells cs e (0, 0)) := fun k hk => by
  rcases h.2 with ⟨e0, _⟩ | ⟨g, cap, cur, e0, _, hg, _⟩
  · simp at e0; rw [e0.1] at hk; simp [blockOf] at hk
  · simp at e0; rw [e0.1] at hk; simp [blockOf] at hk; subst hk; exact ⟨_, hg⟩
theorem own_room {w : World} {base : Nat} {e : TypeId} {s : Nat} {a : Option Addr} {n c : Nat} {xs : List Value} (h : w.ownsRow base e s (.slice a n c) n xs) : n ≤ c ∧ c ≤ maxLen := by
  rcases h.2 with ⟨e0, e1⟩ | ⟨g, cap, cur, e0, _, _, h1, h2, _⟩
  · simp at e0; obtain ⟨_, rfl, rfl⟩ := e0; exact ⟨Nat.le_refl _, by unfold maxLen; omega⟩
  · simp at e0; obtain ⟨_, rfl⟩ := e0; exact ⟨h1, h2⟩
theorem set_heap {w : World} {b : Nat} {cs : Array Value} {t : TypeId} (h : w.heap[b]? = some (.cells cs t (0, 0))) (i : Nat) (u : Value) : (w.setCell ⟨b, i, none⟩ u).heap[b]? = some (.cells (cs.setIfInBounds i u) t (0, 0)) := heap_setCell_same w b i cs t u h
theorem set_other {w : World} {b c : Nat} (i : Nat) (u : Value) (hn : c ≠ b) : (w.setCell ⟨b, i, none⟩ u).heap[c]? = w.heap[c]? := Below.heap_setCell _ _ _ _ hn
theorem alloc_new (w : World) (o : Obj) : (w.alloc o).heap[w.heap.size]? = some o := heap_alloc_new w o
theorem alloc_old {w : World} (o : Obj) {k : Nat} {q : Obj} (h : w.heap[k]? = some q) : (w.alloc o).heap[k]? = some q := (Below.heap_alloc _ _ _ (block_lt h)).trans h
theorem alloc_size (w : World) (o : Obj) : (w.alloc o).heap.size = w.heap.size + 1 := by simp
theorem alloc_kept0 (w : World) (o : Obj) : Kept (fun _ => False) w (w.alloc o) := (Kept.refl _ w).alloc o
/-- A store into an owned row of one-cell elements. -/
theorem owns_set {w : World} {base : Nat} {e : TypeId} {g n c : Nat} {xs : List Value} (h : w.ownsRow base e 1 (.slice (some ⟨g, 0, none⟩) n c) n xs) (i : Nat) (u : Value) :
    (w.setCell ⟨g, i, none⟩ u).ownsRow base e 1 (.slice (some ⟨g, 0, none⟩) n c) n (xs.set i u) := by
  refine ⟨by rw [List.length_set]; exact h.1, ?_⟩
  rcases h.2 with ⟨e0, _⟩ | ⟨g4, c4, cur, e4, hb, hg, hn, hm, hs, ht⟩
  · simp at e0
  · simp at e4
    obtain ⟨rfl, rfl⟩ := e4
    refine .inr ⟨g, c, cur.setIfInBounds i u, rfl, hb, set_heap hg i u, hn, hm, by simpa using hs, ?_⟩
    rw [Nat.mul_one] at ht ⊢
    rw [← ht, Array.toList_setIfInBounds, List.take_set]
/-- Bytes as a text. -/
def str (l : List Nat) : ByteArray := ⟨(l.map UInt8.ofNat).toArray⟩
theorem Reads.string {w : World} {a : Option Addr} {len cap : Nat} {l : List Nat} (r : Reads w a len cap l) : (convert 34 9 (.slice a len cap)).run Tryz.prog w = .ok (.string (str l)) w := by
  have hlen := r.length
  subst hlen
  have hm : (l.map UInt8.ofNat).length = l.length := List.length_map ..
  have some_case : ∀ ad : Addr, a = some ad → (∀ j, j < l.length → w.cell? (ad.add j) = some (.int .u8 ((l.getD j 0 : Nat) : Int))) → (convert 34 9 (.slice a l.length cap)).run Tryz.prog w = .ok (.string (str l)) w := fun ad e hc => by
    subst e
    have := run_convert_bytes_back (P := Tryz.prog) w 34 9 5 ad cap (l.map UInt8.ofNat) Tryz.underlying34 Tryz.underlying5 Tryz.underlying9 (fun j hj => by
      have hj' : j < l.length := by rw [← hm]; exact hj
      rw [hc j hj']
      have hb := r.bytes l[j] (List.getElem_mem hj')
      have e1 : l.getD j 0 = l[j] := by rw [List.getD_eq_getElem?_getD, List.getElem?_eq_getElem hj']; rfl
      rw [e1, List.getElem_map, UInt8.toNat_ofNat']
      congr 3
      omega)
    rw [hm] at this
    exact this
  by_cases h0 : 0 < l.length
  · obtain ⟨b, off, e, hc⟩ := r.cells h0
    exact some_case _ e (fun j hj => by rw [Addr.add_none]; exact hc j hj)
  · have hl : l = [] := List.eq_nil_of_length_eq_zero (by omega)
    subst hl
    cases a with
    | some ad => exact some_case ad rfl (fun j hj => absurd hj (by simp))
    | none =>
      have e : (convert 34 9 (.slice none 0 cap)).run Tryz.prog w = .ok (.string (str [])) w := by kernel_rfl
      exact e
theorem get_alloc {w : World} {o' : Obj} {b : Nat} {o : Obj} (h : w.heap[b]? = some o) : (w.alloc o').heap[b]? = some o := (alloc_kept0 w o').get h (fun q => q)
end Go.Proofs.YtbangbobfeflcaaGreatDoor

namespace Go.Proofs.YtbangbobfeflcaaGreatDoor
open Go.RowKit 

/-- What is known of a kind of maps: its keys, its elements. -/
structure MK {κ ε : Type} (T K E : TypeId) (kv : κ → Value) (kl : κ → Lit) (KF : κ → Prop) (ev : ε → Value) (z : ε) (RD : Value → Option (DataW Value × List MemPlace)) : Prop where
  law : Maps.Keyed Tryz.prog K
  und : Tryz.prog.underlying T = some (.map K E)
  key : ∀ k, KF k → keyOf Tryz.prog K (kv k) = some (kl k)
  inv : ∀ v l, keyOf Tryz.prog K v = some l → ∃ k, v = kv k ∧ KF k ∧ l = kl k
  inj : ∀ k k', KF k → KF k' → kl k = kl k' → k = k'
  kvi : ∀ k k', kv k = kv k' → k = k'
  rd : ∀ e, RD (ev e) = some (.held (ev e), [])
  rdi : ∀ v y, RD v = some y → (∃ e, v = ev e) ∧ y = (.held v, [])
  evi : ∀ e e', ev e = ev e' → e = e'
  zero : ∀ w, (zeroValue E).run Tryz.prog w = .ok (ev z) w
def upd {κ ε : Type} [DecidableEq κ] (M : κ → Option ε) (k : κ) (e : ε) : κ → Option ε := fun j => if j = k then some e else M j
/-- The datum says what the function says. -/
def Says {κ ε : Type} (kl : κ → Lit) (KF : κ → Prop) (ev : ε → Value) (D : DataW Value) (M : κ → Option ε) : Prop :=
  (∀ k, KF k → ∀ d, D.atKey (kl k) d = ((M k).map fun e => DataW.held (ev e)).getD d) ∧ ∀ k e, M k = some e → KF k
/-- Block b is a map of n entries that holds just this. -/
def TM {κ ε : Type} (K : TypeId) (kl : κ → Lit) (KF : κ → Prop) (ev : ε → Value) (RD : Value → Option (DataW Value × List MemPlace)) (w : World) (b n : Nat) (M : κ → Option ε) : Prop :=
  ∃ D, w.ownsMap Tryz.prog K RD b n D ∧ Says kl KF ev D M ∧ Maps.size D = n
/-- A map that is gone through: what is left. -/
def RG {κ ε : Type} (K : TypeId) (kl : κ → Lit) (KF : κ → Prop) (ev : ε → Value) (RD : Value → Option (DataW Value × List MemPlace)) (w : World) (b r n : Nat) (M : κ → Option ε) (L : κ → Prop) (cnt : Nat) : Prop :=
  ∃ D left, w.ranges Tryz.prog K RD b r n D left cnt ∧ (Says kl KF ev D M ∧ Maps.size D = n) ∧ ∀ k, KF k → (left (kl k) = true ↔ L k)
section
variable {κ ε : Type} {T K E : TypeId} {kv : κ → Value} {kl : κ → Lit} {KF : κ → Prop} {ev : ε → Value} {z : ε} {RD : Value → Option (DataW Value × List MemPlace)}
theorem Says.has {D : DataW Value} {M : κ → Option ε} (h : Says kl KF ev D M) {k : κ} (hk : KF k) : Maps.has D (kl k) = (M k).isSome := by
  have h1 := h.1 k hk
  cases hm : M k with
  | none =>
    rw [hm] at h1
    exact Maps.has_false_of_atKey h1
  | some e =>
    rw [hm] at h1
    exact Maps.has_true_of_atKey h1
theorem TM.lt {w : World} {b n : Nat} {M : κ → Option ε} (h : TM K kl KF ev RD w b n M) : b < w.heap.size := let ⟨_, h1, _⟩ := h; h1.lt
theorem TM.kept {S : Nat → Prop} {w w' : World} {b n : Nat} {M : κ → Option ε} (h : TM K kl KF ev RD w b n M) (Kp : Kept S w w') (hn : ¬ S b) : TM K kl KF ev RD w' b n M := by
  obtain ⟨D, ⟨es, clock, hb, r⟩, s⟩ := h
  exact ⟨D, ⟨es, clock, Kp.get hb hn, r⟩, s⟩
/-- 'm[k] = v'. -/
theorem Says.put [DecidableEq κ] (X : MK T K E kv kl KF ev z RD) {D : DataW Value} {M : κ → Option ε} (h : Says kl KF ev D M) (hD : Maps.IsMap D) {k : κ} (hk : KF k) (e : ε) : Says kl KF ev (D.put (kl k) (.held (ev e))) (upd M k e) := by
  refine ⟨fun j hj d => ?_, fun j e' he => ?_⟩
  · unfold upd
    by_cases ej : j = k
    · rw [if_pos ej, ej]
      exact Maps.atKey_put_same hD (X.law.key (X.key k hk)) _ _
    · rw [if_neg ej, Maps.atKey_put_other (fun q => ej (X.inj j k hj hk q))]
      exact h.1 j hj d
  · unfold upd at he
    by_cases ej : j = k
    · rw [ej]; exact hk
    · rw [if_neg ej] at he
      exact h.2 j e' he
/-- A map's bound is its size. -/
theorem owns_size {w : World} {b n : Nat} {D : DataW Value} (h : w.ownsMap Tryz.prog K RD b n D) : w.ownsMap Tryz.prog K RD b (Maps.size D) D := by
  obtain ⟨es, clock, hb, F, hs, e⟩ := h
  refine ⟨es, clock, hb, F, ?_, e⟩
  rw [e, Maps.size_eq, length_sorted]
  simp
theorem TM.len (X : MK T K E kv kl KF ev z RD) {w : World} {b n : Nat} {M : κ → Option ε} (h : TM K kl KF ev RD w b n M) (ty : TypeId) : (Builtin.len_ #[T] ty #[.map (some b)]).run Tryz.prog w = .ok (.int .i64 (n : Int)) w := by
  obtain ⟨D, h, _, e⟩ := h
  rw [← e]
  exact h.len X.und ty
/-- How many there are behind 'm[k] = v'. -/
def nput {κ ε : Type} (n : Nat) (M : κ → Option ε) (k : κ) : Nat := if (M k).isSome then n else n + 1
theorem TM.put [DecidableEq κ] (X : MK T K E kv kl KF ev z RD) {w w' : World} {b n : Nat} {M : κ → Option ε} {D : DataW Value} (o : w.ownsMap Tryz.prog K RD b n D) (s : Says kl KF ev D M) (e0 : Maps.size D = n) {k : κ} (hk : KF k) (e : ε) (h : w'.ownsMap Tryz.prog K RD b (n + 1) (D.put (kl k) (.held (ev e)))) : TM K kl KF ev RD w' b (nput n M k) (upd M k e) := by
  have e1 : Maps.size (D.put (kl k) (.held (ev e))) = nput n M k := by
    rw [Maps.size_put (o.tidy X.law), s.has hk, e0]
    rfl
  have := owns_size h
  rw [e1] at this
  exact ⟨_, this, s.put X o.isMap hk e, e1⟩
theorem RG.tm {w : World} {b r n : Nat} {M : κ → Option ε} {L : κ → Prop} {cnt : Nat} (h : RG K kl KF ev RD w b r n M L cnt) : TM K kl KF ev RD w b n M := by
  obtain ⟨D, left, h, s, _⟩ := h
  exact ⟨D, h.owns, s.1, s.2⟩
theorem RG.lt {w : World} {b r n : Nat} {M : κ → Option ε} {L : κ → Prop} {cnt : Nat} (h : RG K kl KF ev RD w b r n M L cnt) : r < w.heap.size ∧ r ≠ b := by
  obtain ⟨D, left, h, s, _⟩ := h
  exact ⟨h.lt, h.ne⟩
theorem RG.kept {S : Nat → Prop} {w w' : World} {b r n : Nat} {M : κ → Option ε} {L : κ → Prop} {cnt : Nat} (h : RG K kl KF ev RD w b r n M L cnt) (Kp : Kept S w w') (hb : ¬ S b) (hr : ¬ S r) : RG K kl KF ev RD w' b r n M L cnt := by
  obtain ⟨D, left, h, s, hl⟩ := h
  refine ⟨D, left, ?_, s, hl⟩
  obtain ⟨es, clock, since, seen, c0, h1, h2, h3, h4, h5, h6⟩ := h
  exact ⟨es, clock, since, seen, c0, Kp.get h1 hb, h2, h3, h4, Kp.get h5 hr, h6⟩
end
end Go.Proofs.YtbangbobfeflcaaGreatDoor

namespace Go.Proofs.YtbangbobfeflcaaGreatDoor
open Go.RowKit 

/-- An event, with the bytes that it leads to. -/
structure Ev where
  kind : Int
  client : Int
  op : Int
  put : Bool
  key : ByteArray
  va : Option Addr
  vn : Nat
  vc : Nat
  st : Int
  tx : Int
  ty : Int
  val : List Nat
def Ev.cs (e : Ev) : Array Value := #[.int .i64 e.kind, .int .i64 e.client, .int .i64 e.op, .bool e.put, .string e.key, .slice e.va e.vn e.vc, .int .i64 e.st, .int .i64 e.tx, .int .i64 e.ty]
def Ev.agg (e : Ev) : Value := .agg #[.int .i64 e.kind, .int .i64 e.client, .int .i64 e.op, .bool e.put, .string e.key, .slice e.va e.vn e.vc, .int .i64 e.st, .int .i64 e.tx, .int .i64 e.ty]
/-- A list of events reads so. -/
structure ERd (w : World) (p : Option Addr) (n c : Nat) (es : List Ev) : Prop where
  len : es.length = n
  room : n ≤ c
  small : c ≤ maxLen
  cells : 0 < n → ∃ b off, p = some ⟨b, off, none⟩ ∧ ∀ i (h : i < es.length) k v, es[i].cs[k]? = some v → w.cell? ⟨b, off + i * 9 + k, none⟩ = some v
  rd : ∀ e ∈ es, Reads w e.va e.vn e.vc e.val
theorem ERd.at {w : World} {p : Option Addr} {n c : Nat} {es : List Ev} (h : ERd w p n c es) {i : Nat} (hi : i < n) : ∃ b off e, p = some ⟨b, off, none⟩ ∧ es[i]? = some e ∧ w.cell? ⟨b, off + i * 9, none⟩ = some (.int .i64 e.kind) ∧ w.cell? ⟨b, off + i * 9 + 1, none⟩ = some (.int .i64 e.client) ∧ w.cell? ⟨b, off + i * 9 + 2, none⟩ = some (.int .i64 e.op) ∧ w.cell? ⟨b, off + i * 9 + 3, none⟩ = some (.bool e.put) ∧ w.cell? ⟨b, off + i * 9 + 4, none⟩ = some (.string e.key) ∧ w.cell? ⟨b, off + i * 9 + 5, none⟩ = some (.slice e.va e.vn e.vc) ∧ w.cell? ⟨b, off + i * 9 + 6, none⟩ = some (.int .i64 e.st) ∧ w.cell? ⟨b, off + i * 9 + 7, none⟩ = some (.int .i64 e.tx) ∧ w.cell? ⟨b, off + i * 9 + 8, none⟩ = some (.int .i64 e.ty) ∧ Reads w e.va e.vn e.vc e.val := by
  obtain ⟨b, off, e, hc⟩ := h.cells (by omega)
  have hi2 : i < es.length := by rw [h.len]; exact hi
  exact ⟨b, off, es[i], e, List.getElem?_eq_getElem hi2, hc i hi2 0 _ rfl, hc i hi2 1 _ rfl, hc i hi2 2 _ rfl, hc i hi2 3 _ rfl, hc i hi2 4 _ rfl, hc i hi2 5 _ rfl, hc i hi2 6 _ rfl, hc i hi2 7 _ rfl, hc i hi2 8 _ rfl, h.rd _ (List.getElem_mem hi2)⟩
theorem ERd.k0 {w w' : World} {p : Option Addr} {n c : Nat} {es : List Ev} (h : ERd w p n c es) (K : Kept (fun _ => False) w w') : ERd w' p n c es := by
  refine ⟨h.len, h.room, h.small, fun h0 => ?_, fun e he => Reads.kept K (h.rd e he) (fun _ _ z => z)⟩
  obtain ⟨b, off, e, hc⟩ := h.cells h0
  exact ⟨b, off, e, fun i hi k v hv => K.cell (hc i hi k v hv) (fun z => z)⟩
def kIsProper (a b : Int) : Bool := decide (1 ≤ a ∧ a ≤ 4611686018427387903 ∧ 1 ≤ b ∧ b ≤ 65535)
def kIsZero (a b : Int) : Bool := decide (a = 0 ∧ b = 0)
/-- What stands behind the key in an event's line: nothing 0, a value 1, a tag 2, both 3, a status and a tag 4. -/
def formR (st : Int) (pu : Bool) : Int := if st = 0 then (if pu = true then 2 else 3) else if st = 76 ∨ st = 42 then 0 else 4
def formE (e : Ev) : Int := if e.kind = 1 then (if e.put = true then 1 else 0) else if e.kind = 3 then (if e.put = true then 2 else 0) else if e.kind = 2 then formR e.st e.put else 0
def valueE (e : Ev) : Bool := if formE e = 1 ∨ formE e = 3 then decide (e.vn ≤ 65536) else decide (e.vn = 0)
def tagE (e : Ev) : Bool := if formE e = 0 ∨ formE e = 1 then kIsZero e.tx e.ty else (kIsZero e.tx e.ty || kIsProper e.tx e.ty) && !(decide (e.kind = 2) && decide (e.st = 0) && kIsZero e.tx e.ty)
def statusE (e : Ev) : Bool := if e.st = 0 then true else if e.kind ≠ 2 then false else if e.put = true then decide (e.st = 42) else (decide (e.st = 76) || (decide (20 ≤ e.st) && decide (e.st ≤ 26)))
/-- What is wrong with an event by itself. -/
def faultE (e : Ev) : Int :=
  if ¬ (e.kind = 1 ∨ e.kind = 2 ∨ e.kind = 3) then 32
  else if e.client < 1 ∨ 65535 < e.client then 51
  else if e.key.size < 1 ∨ 64 < e.key.size then 74
  else if valueE e = false then 75
  else if tagE e = false then 41
  else if e.op < 1 ∨ 4611686018427387903 < e.op ∨ statusE e = false then 80 else 0
/-- May it stand behind its client's last one? -/
def mayF (l : Option Ev) (e : Ev) : Bool :=
  let busy := match l with | some x => decide (x.kind = 1) | none => false
  let lop := match l with | some x => x.op | none => 0
  if e.kind = 1 then !busy && decide (e.op = lop + 1)
  else match l with | some x => busy && decide (e.op = x.op) && decide (e.put = x.put) && decide (e.key = x.key) | none => false
/-- The first event that can't stand where it stands. -/
def chkE : List Ev → (Int → Option Ev) → Nat → Int × Int
  | [], _, _ => (-1, 0)
  | e :: es, M, i => if faultE e ≠ 0 then ((i : Int), faultE e) else if mayF (M e.client) e = false then ((i : Int), 80) else chkE es (upd M e.client e) (i + 1)
/-- The last ones by client. -/
def lastM : List Ev → (Int → Option Ev) → Int → Option Ev
  | [], M => M
  | e :: es, M => lastM es (upd M e.client e)
def noM : Int → Option Ev := fun _ => none
end Go.Proofs.YtbangbobfeflcaaGreatDoor
