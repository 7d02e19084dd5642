import Derived.Test.YtbangbobfeflcaaGreatDoorBase
import Derived.Deep.RegionHeldLaw
import Derived.Maps.RangeWalk
import Derived.Maps.OwnSet
namespace Go.Proofs.YtbangbobfeflcaaGreatDoor
open Go.RowKit

theorem owns_mono {w : World} {b b' : Nat} {e : TypeId} {s : Nat} {v : Value} {n : Nat} {xs : List Value} (h : w.ownsRow b e s v n xs) (hb : b' ≤ b) : w.ownsRow b' e s v n xs := by
  refine ⟨h.1, ?_⟩
  rcases h.2 with q | ⟨g, cap, cur, e0, h1, rest⟩
  · exact .inl q
  · exact .inr ⟨g, cap, cur, e0, Nat.le_trans hb h1, rest⟩
theorem kept_below {w w' : World} (B : Below w.heap.size w w') : Kept (fun _ => False) w w' := ⟨B.os, B.tape, B.output, B.size, fun k hk _ => B.block k hk⟩
theorem below_kept {w w' : World} (K : Kept (fun _ => False) w w') : Below w.heap.size w w' := ⟨K.os, K.tape, K.output, K.size, fun k hk => K.block k hk (fun q => q)⟩
def blockOf (a : Option Addr) : Option Nat := a.map (·.block)
theorem blockOf_own (a : Option Addr) (n c : Nat) : (Value.slice a n c).ownBlock = blockOf a := by cases a <;> rfl
theorem own_lt {w : World} {base : Nat} {e : TypeId} {s : Nat} {a : Option Addr} {n c : Nat} {xs : List Value} (h : w.ownsRow base e s (.slice a n c) n xs) : ∀ k, blockOf a = some k → base ≤ k ∧ k < w.heap.size := fun k hk => h.lt k (by rw [blockOf_own]; exact hk)
theorem own_type {w : World} {base : Nat} {e : TypeId} {s : Nat} {a : Option Addr} {n c : Nat} {xs : List Value} (h : w.ownsRow base e s (.slice a n c) n xs) : ∀ k, blockOf a = some k → ∃ cs, w.heap[k]? = some (.cells cs e (0, 0)) := fun k hk => by
  rcases h.2 with ⟨e0, _⟩ | ⟨g, cap, cur, e0, _, hg, _⟩
  · simp at e0; rw [e0.1] at hk; simp [blockOf] at hk
  · simp at e0; rw [e0.1] at hk; simp [blockOf] at hk; subst hk; exact ⟨_, hg⟩
theorem own_room {w : World} {base : Nat} {e : TypeId} {s : Nat} {a : Option Addr} {n c : Nat} {xs : List Value} (h : w.ownsRow base e s (.slice a n c) n xs) : n ≤ c ∧ c ≤ maxLen := by
  rcases h.2 with ⟨e0, e1⟩ | ⟨g, cap, cur, e0, _, _, h1, h2, _⟩
  · simp at e0; obtain ⟨_, rfl, rfl⟩ := e0; exact ⟨Nat.le_refl _, by unfold maxLen; omega⟩
  · simp at e0; obtain ⟨_, rfl⟩ := e0; exact ⟨h1, h2⟩
set_option maxRecDepth 100000 in
theorem nil_none (cap : Nat) (w : World) : (binOp .eql 34 (.slice none 0 cap) (.slice none 0 0)).run Tryz.prog w = .ok (.bool true) w := by kernel_rfl
theorem nil_some (ad : Addr) (len cap : Nat) (w : World) : (binOp .eql 34 (.slice (some ad) len cap) (.slice none 0 0)).run Tryz.prog w = .ok (.bool false) w := by kernel_rfl
theorem set_heap {w : World} {b : Nat} {cs : Array Value} {t : TypeId} (h : w.heap[b]? = some (.cells cs t (0, 0))) (i : Nat) (u : Value) : (w.setCell ⟨b, i, none⟩ u).heap[b]? = some (.cells (cs.setIfInBounds i u) t (0, 0)) := heap_setCell_same w b i cs t u h
theorem set_other {w : World} {b c : Nat} (i : Nat) (u : Value) (hn : c ≠ b) : (w.setCell ⟨b, i, none⟩ u).heap[c]? = w.heap[c]? := Below.heap_setCell _ _ _ _ hn
theorem alloc_new (w : World) (o : Obj) : (w.alloc o).heap[w.heap.size]? = some o := heap_alloc_new w o
theorem alloc_old {w : World} (o : Obj) {k : Nat} {q : Obj} (h : w.heap[k]? = some q) : (w.alloc o).heap[k]? = some q := (Below.heap_alloc _ _ _ (block_lt h)).trans h
theorem alloc_size (w : World) (o : Obj) : (w.alloc o).heap.size = w.heap.size + 1 := by simp
theorem alloc_kept0 (w : World) (o : Obj) : Kept (fun _ => False) w (w.alloc o) := (Kept.refl _ w).alloc o
/-- A store into an owned row of one-cell elements. -/
theorem owns_set {w : World} {base : Nat} {e : TypeId} {g n c : Nat} {xs : List Value} (h : w.ownsRow base e 1 (.slice (some ⟨g, 0, none⟩) n c) n xs) (i : Nat) (u : Value) :
    (w.setCell ⟨g, i, none⟩ u).ownsRow base e 1 (.slice (some ⟨g, 0, none⟩) n c) n (xs.set i u) := by
  refine ⟨by rw [List.length_set]; exact h.1, ?_⟩
  rcases h.2 with ⟨e0, _⟩ | ⟨g4, c4, cur, e4, hb, hg, hn, hm, hs, ht⟩
  · simp at e0
  · simp at e4
    obtain ⟨rfl, rfl⟩ := e4
    refine .inr ⟨g, c, cur.setIfInBounds i u, rfl, hb, set_heap hg i u, hn, hm, by simpa using hs, ?_⟩
    rw [Nat.mul_one] at ht ⊢
    rw [← ht, Array.toList_setIfInBounds, List.take_set]
/-- Bytes as a text. -/
def str (l : List Nat) : ByteArray := ⟨(l.map UInt8.ofNat).toArray⟩
theorem Reads.string {w : World} {a : Option Addr} {len cap : Nat} {l : List Nat} (r : Reads w a len cap l) : (convert 34 9 (.slice a len cap)).run Tryz.prog w = .ok (.string (str l)) w := by
  have hlen := r.length
  subst hlen
  have hm : (l.map UInt8.ofNat).length = l.length := List.length_map ..
  have some_case : ∀ ad : Addr, a = some ad → (∀ j, j < l.length → w.cell? (ad.add j) = some (.int .u8 ((l.getD j 0 : Nat) : Int))) → (convert 34 9 (.slice a l.length cap)).run Tryz.prog w = .ok (.string (str l)) w := fun ad e hc => by
    subst e
    have := run_convert_bytes_back (P := Tryz.prog) w 34 9 5 ad cap (l.map UInt8.ofNat) Tryz.underlying34 Tryz.underlying5 Tryz.underlying9 (fun j hj => by
      have hj' : j < l.length := by rw [← hm]; exact hj
      rw [hc j hj']
      have hb := r.bytes l[j] (List.getElem_mem hj')
      have e1 : l.getD j 0 = l[j] := by rw [List.getD_eq_getElem?_getD, List.getElem?_eq_getElem hj']; rfl
      rw [e1, List.getElem_map, UInt8.toNat_ofNat']
      congr 3
      omega)
    rw [hm] at this
    exact this
  by_cases h0 : 0 < l.length
  · obtain ⟨b, off, e, hc⟩ := r.cells h0
    exact some_case _ e (fun j hj => by rw [Addr.add_none]; exact hc j hj)
  · have hl : l = [] := List.eq_nil_of_length_eq_zero (by omega)
    subst hl
    cases a with
    | some ad => exact some_case ad rfl (fun j hj => absurd hj (by simp))
    | none =>
      have e : (convert 34 9 (.slice none 0 cap)).run Tryz.prog w = .ok (.string (str [])) w := by kernel_rfl
      exact e
theorem alloc_new2 (w : World) (o1 : Obj) (cs : Array Value) (t : TypeId) : ((w.alloc o1).alloc (.cells cs t)).heap[w.heap.size + 1]? = some (.cells cs t (0, 0)) := by
  have := alloc_new (w.alloc o1) (.cells cs t)
  rw [alloc_size] at this
  exact this
theorem get_alloc {w : World} {o' : Obj} {b : Nat} {o : Obj} (h : w.heap[b]? = some o) : (w.alloc o').heap[b]? = some o := (alloc_kept0 w o').get h (fun q => q)
theorem slice_to {w : World} {base : Nat} {a : Option Addr} {len cap : Nat} {xs : List Value} (h : w.ownsRow base 5 1 (.slice a len cap) len xs) (mn : Nat) (hm : mn ≤ len) (W : World) : (Instr.slice 34 (.slice a len cap) none (some (.int .i64 (mn : Int))) none).run Tryz.prog W = .ok (.slice a mn cap) W := by
  rcases h.2 with ⟨e0, e1⟩ | ⟨g, cap', cur, e0, _, _, h1, h2, _⟩
  · simp at e0
    obtain ⟨rfl, rfl, rfl⟩ := e0
    have : mn = 0 := by omega
    subst this
    simp [Instr.slice, Instr.sliceBounds, Instr.sliceBound, asIntOf, run_underlying Tryz.underlying34]
  · simp at e0
    obtain ⟨rfl, rfl⟩ := e0
    unfold maxLen at h2
    have h3 : mn ≤ cap := by omega
    simp [Instr.slice, Instr.sliceBounds, Instr.sliceBound, asIntOf, run_underlying Tryz.underlying34, h3]
    intro _
    rw [Addr.add_none]
theorem Reads.off {S : Nat → Prop} {w w' : World} {a : Option Addr} {len cap : Nat} {l : List Nat} (r : Reads w a len cap l) (h : Kept S w w') (hn : ∀ k, blockOf a = some k → ¬ S k) : Reads w' a len cap l := r.kept h (fun p hp => hn _ (by rw [hp]; rfl))
end Go.Proofs.YtbangbobfeflcaaGreatDoor

namespace Go.Proofs.YtbangbobfeflcaaGreatDoor
open Go.RowKit 

/-- What is known of a kind of maps: its keys, its elements. -/
structure MK {κ ε : Type} (T K E : TypeId) (kv : κ → Value) (kl : κ → Lit) (KF : κ → Prop) (ev : ε → Value) (z : ε) (RD : Value → Option (DataW Value × List MemPlace)) : Prop where
  law : Maps.Keyed Tryz.prog K
  und : Tryz.prog.underlying T = some (.map K E)
  key : ∀ k, KF k → keyOf Tryz.prog K (kv k) = some (kl k)
  inv : ∀ v l, keyOf Tryz.prog K v = some l → ∃ k, v = kv k ∧ KF k ∧ l = kl k
  inj : ∀ k k', KF k → KF k' → kl k = kl k' → k = k'
  kvi : ∀ k k', kv k = kv k' → k = k'
  rd : ∀ e, RD (ev e) = some (.held (ev e), [])
  rdi : ∀ v y, RD v = some y → (∃ e, v = ev e) ∧ y = (.held v, [])
  evi : ∀ e e', ev e = ev e' → e = e'
  zero : ∀ w, (zeroValue E).run Tryz.prog w = .ok (ev z) w
def upd {κ ε : Type} [DecidableEq κ] (M : κ → Option ε) (k : κ) (e : ε) : κ → Option ε := fun j => if j = k then some e else M j
/-- The datum says what the function says. -/
def Says {κ ε : Type} (kl : κ → Lit) (KF : κ → Prop) (ev : ε → Value) (D : DataW Value) (M : κ → Option ε) : Prop :=
  (∀ k, KF k → ∀ d, D.atKey (kl k) d = ((M k).map fun e => DataW.held (ev e)).getD d) ∧ ∀ k e, M k = some e → KF k
/-- Block b is a map of n entries that holds just this. -/
def TM {κ ε : Type} (K : TypeId) (kl : κ → Lit) (KF : κ → Prop) (ev : ε → Value) (RD : Value → Option (DataW Value × List MemPlace)) (w : World) (b n : Nat) (M : κ → Option ε) : Prop :=
  ∃ D, w.ownsMap Tryz.prog K RD b n D ∧ Says kl KF ev D M ∧ Maps.size D = n
/-- A map that is gone through: what is left. -/
def RG {κ ε : Type} (K : TypeId) (kl : κ → Lit) (KF : κ → Prop) (ev : ε → Value) (RD : Value → Option (DataW Value × List MemPlace)) (w : World) (b r n : Nat) (M : κ → Option ε) (L : κ → Prop) (cnt : Nat) : Prop :=
  ∃ D left, w.ranges Tryz.prog K RD b r n D left cnt ∧ (Says kl KF ev D M ∧ Maps.size D = n) ∧ ∀ k, KF k → (left (kl k) = true ↔ L k)
section
variable {κ ε : Type} {T K E : TypeId} {kv : κ → Value} {kl : κ → Lit} {KF : κ → Prop} {ev : ε → Value} {z : ε} {RD : Value → Option (DataW Value × List MemPlace)}
theorem Says.has {D : DataW Value} {M : κ → Option ε} (h : Says kl KF ev D M) {k : κ} (hk : KF k) : Maps.has D (kl k) = (M k).isSome := by
  have h1 := h.1 k hk
  cases hm : M k with
  | none =>
    rw [hm] at h1
    exact Maps.has_false_of_atKey h1
  | some e =>
    rw [hm] at h1
    exact Maps.has_true_of_atKey h1
theorem TM.lt {w : World} {b n : Nat} {M : κ → Option ε} (h : TM K kl KF ev RD w b n M) : b < w.heap.size := let ⟨_, h1, _⟩ := h; h1.lt
theorem TM.kept {S : Nat → Prop} {w w' : World} {b n : Nat} {M : κ → Option ε} (h : TM K kl KF ev RD w b n M) (Kp : Kept S w w') (hn : ¬ S b) : TM K kl KF ev RD w' b n M := by
  obtain ⟨D, ⟨es, clock, hb, r⟩, s⟩ := h
  exact ⟨D, ⟨es, clock, Kp.get hb hn, r⟩, s⟩
theorem TM.made (w : World) : TM K kl KF ev RD (w.alloc (.map #[] 0)) w.heap.size 0 (fun _ : κ => (none : Option ε)) :=
  ⟨.map [], World.ownsMap_made w _ _ _, ⟨fun _ _ _ => rfl, fun _ _ h => by cases h⟩, rfl⟩
/-- 'm[k]'. -/
theorem TM.look (X : MK T K E kv kl KF ev z RD) {w : World} {b n : Nat} {M : κ → Option ε} (h : TM K kl KF ev RD w b n M) {k : κ} (hk : KF k) : (Instr.lookup T (.map (some b)) (kv k) false).run Tryz.prog w = .ok (ev ((M k).getD z)) w := by
  obtain ⟨D, h, s, _⟩ := h
  obtain ⟨v, ps, h1, h2⟩ := h.lookup X.law X.und (X.zero w) (X.rd z) (X.key k hk)
  rw [h1, s.1 k hk] at *
  have h3 := (X.rdi v _ h2).2
  cases hm : M k with
  | none => rw [hm] at h3; simp at h3; rw [← h3.1]; rfl
  | some e => rw [hm] at h3; simp at h3; rw [← h3.1]; rfl
/-- 'm[k] = v'. -/
theorem Says.put [DecidableEq κ] (X : MK T K E kv kl KF ev z RD) {D : DataW Value} {M : κ → Option ε} (h : Says kl KF ev D M) (hD : Maps.IsMap D) {k : κ} (hk : KF k) (e : ε) : Says kl KF ev (D.put (kl k) (.held (ev e))) (upd M k e) := by
  refine ⟨fun j hj d => ?_, fun j e' he => ?_⟩
  · unfold upd
    by_cases ej : j = k
    · rw [if_pos ej, ej]
      exact Maps.atKey_put_same hD (X.law.key (X.key k hk)) _ _
    · rw [if_neg ej, Maps.atKey_put_other (fun q => ej (X.inj j k hj hk q))]
      exact h.1 j hj d
  · unfold upd at he
    by_cases ej : j = k
    · rw [ej]; exact hk
    · rw [if_neg ej] at he
      exact h.2 j e' he
/-- A map's bound is its size. -/
theorem owns_size {w : World} {b n : Nat} {D : DataW Value} (h : w.ownsMap Tryz.prog K RD b n D) : w.ownsMap Tryz.prog K RD b (Maps.size D) D := by
  obtain ⟨es, clock, hb, F, hs, e⟩ := h
  refine ⟨es, clock, hb, F, ?_, e⟩
  rw [e, Maps.size_eq, length_sorted]
  simp
theorem TM.len (X : MK T K E kv kl KF ev z RD) {w : World} {b n : Nat} {M : κ → Option ε} (h : TM K kl KF ev RD w b n M) (ty : TypeId) : (Builtin.len_ #[T] ty #[.map (some b)]).run Tryz.prog w = .ok (.int .i64 (n : Int)) w := by
  obtain ⟨D, h, _, e⟩ := h
  rw [← e]
  exact h.len X.und ty
/-- How many there are behind 'm[k] = v'. -/
def nput {κ ε : Type} (n : Nat) (M : κ → Option ε) (k : κ) : Nat := if (M k).isSome then n else n + 1
theorem TM.put [DecidableEq κ] (X : MK T K E kv kl KF ev z RD) {w w' : World} {b n : Nat} {M : κ → Option ε} {D : DataW Value} (o : w.ownsMap Tryz.prog K RD b n D) (s : Says kl KF ev D M) (e0 : Maps.size D = n) {k : κ} (hk : KF k) (e : ε) (h : w'.ownsMap Tryz.prog K RD b (n + 1) (D.put (kl k) (.held (ev e)))) : TM K kl KF ev RD w' b (nput n M k) (upd M k e) := by
  have e1 : Maps.size (D.put (kl k) (.held (ev e))) = nput n M k := by
    rw [Maps.size_put (o.tidy X.law), s.has hk, e0]
    rfl
  have := owns_size h
  rw [e1] at this
  exact ⟨_, this, s.put X o.isMap hk e, e1⟩
theorem wpList_put [DecidableEq κ] (X : MK T K E kv kl KF ev z RD) (w : World) {ops : Array Oper} {rest : List Oper} {o : Oper} {a : Act} {Q : Exit → Act → World → Prop} (hg : o.guard = none) (m x v : Operand) (hop : o.op = Op.mapUpdate T m x v) (b n : Nat) (M : κ → Option ε)
    (hm : a.eval m = .map (some b)) (h : TM K kl KF ev RD w b n M) (hn : n < maxLen) (k : κ) (hk : KF k) (e : ε) (hx : a.eval x = kv k) (hv : a.eval v = ev e)
    (hK : ∀ w', Hid (TM K kl KF ev RD w' b (nput n M k) (upd M k e)) → Hid (Kept (fun j => j = b) w w') → wpList Tryz.prog ops Q rest (a.put o.dst undef) w') : wpList Tryz.prog ops Q (o :: rest) a w := by
  obtain ⟨D, h, s, e0⟩ := h
  refine wpList_mapUpdate_own w hg m x v T hop K E X.law X.und RD b n D hm h hn (kv k) (ev e) (kl k) hx hv (X.key k hk) _ [] (X.rd e) (fun w' h1 hgr => hK w' (TM.put X h s e0 hk e h1) ((Kept.refl _ w).grown hgr (fun j _ q => by simp at q; exact q.symm)))
theorem RG.tm {w : World} {b r n : Nat} {M : κ → Option ε} {L : κ → Prop} {cnt : Nat} (h : RG K kl KF ev RD w b r n M L cnt) : TM K kl KF ev RD w b n M := by
  obtain ⟨D, left, h, s, _⟩ := h
  exact ⟨D, h.owns, s.1, s.2⟩
theorem RG.lt {w : World} {b r n : Nat} {M : κ → Option ε} {L : κ → Prop} {cnt : Nat} (h : RG K kl KF ev RD w b r n M L cnt) : r < w.heap.size ∧ r ≠ b := by
  obtain ⟨D, left, h, s, _⟩ := h
  exact ⟨h.lt, h.ne⟩
theorem RG.kept {S : Nat → Prop} {w w' : World} {b r n : Nat} {M : κ → Option ε} {L : κ → Prop} {cnt : Nat} (h : RG K kl KF ev RD w b r n M L cnt) (Kp : Kept S w w') (hb : ¬ S b) (hr : ¬ S r) : RG K kl KF ev RD w' b r n M L cnt := by
  obtain ⟨D, left, h, s, hl⟩ := h
  refine ⟨D, left, ?_, s, hl⟩
  obtain ⟨es, clock, since, seen, c0, h1, h2, h3, h4, h5, h6⟩ := h
  exact ⟨es, clock, since, seen, c0, Kp.get h1 hb, h2, h3, h4, Kp.get h5 hr, h6⟩
end
end Go.Proofs.YtbangbobfeflcaaGreatDoor
