import Derived.Test.YtodmakcklacbfaaNParts
namespace Go.Proofs.Ytodmakcklacbfaa
open Go.RowKit 

def ccells (ms : List Cm) : List Value := ms.flatMap fun m => m.cs.toList
theorem ccells_append (a b : List Cm) : ccells (a ++ b) = ccells a ++ ccells b := by simp [ccells]
theorem ccells_get : ∀ (ms : List Cm) (i : Nat) (h : i < ms.length) (k : Nat), k < 11 → (ccells ms)[i * 11 + k]? = (ms[i].cs)[k]?
  | [], i, h, _, _ => by simp at h
  | m :: ms, i, h, k, hk => by
    have e : ccells (m :: ms) = m.cs.toList ++ ccells ms := by simp [ccells]
    have el : m.cs.toList.length = 11 := rfl
    rw [e]
    cases i with
    | zero =>
      rw [List.getElem?_append_left (by rw [el]; omega), Nat.zero_mul, Nat.zero_add, Array.getElem?_toList]
      rfl
    | succ i =>
      rw [List.getElem?_append_right (by rw [el]; omega), el, show (i + 1) * 11 + k - 11 = i * 11 + k by omega]
      exact ccells_get ms i (by simpa using h) k hk
theorem Try.info38c : (Try.prog.info? 38).map (fun i => (i.zero, i.size, i.bytes)) = some (some (.agg #[.int .i64 0, .int .i64 0, .bool false, .string (ByteArray.mk #[]), .slice none 0 0, .int .i64 0, .int .i64 0, .int .i64 0, .bool false, .int .i64 0, .int .i64 0]), 11, 112) := by kernel_rfl
/-- A list of calls of one's own. -/
structure CRow (b0 : Nat) (w : World) (p : Option Addr) (k c : Nat) (ps : List Cm) : Prop where
  len : ps.length = k
  row : w.ownsRow b0 38 11 (.slice p k c) k (ccells ps)
theorem CRow.k0 {b0 : Nat} {w w' : World} {p : Option Addr} {k c : Nat} {ps : List Cm} (h : CRow b0 w p k c ps) (K : Kept (fun _ => False) w w') : CRow b0 w' p k c ps := ⟨h.len, K.owns h.row (fun _ _ z => z)⟩
theorem CRow.rd {b0 : Nat} {w : World} {p : Option Addr} {k c : Nat} {ps : List Cm} (h : CRow b0 w p k c ps) (r : ∀ m ∈ ps, Reads w m.va m.vn m.vc m.val) : CRd w p k c ps := by
  obtain ⟨r1, r2⟩ := own_room h.row
  refine ⟨h.len, r1, r2, fun h0 => ?_, r⟩
  rcases h.row.2 with ⟨_, hn⟩ | ⟨g, cap, cur, z, _⟩
  · omega
  · have z : Value.slice p k c = .slice (some ⟨g, 0, none⟩) k cap := z
    injection z with z1 _ z3
    subst z1
    subst z3
    have hc := h.row.cells (g := g) rfl
    refine ⟨g, 0, rfl, fun i hi j v hv => ?_⟩
    have hj : j < 11 := by
      obtain ⟨h1, _⟩ := Array.getElem?_eq_some_iff.1 hv
      have : ps[i].cs.size = 11 := rfl
      omega
    have := hc (i * 11 + j) v (by rw [ccells_get ps i hi j hj]; exact hv)
    rw [Addr.add_none, Nat.zero_add] at this
    rw [Nat.zero_add]
    exact this
theorem src_call {w : World} {b : Nat} {m : Cm} (h : w.heap[b]? = some (.cells m.cs 38 (0, 0))) : Src Try.prog 11 27 (.slice (some ⟨b, 0, none⟩) 1 1) 1 (ccells [m]) w :=
  Src.ofSlice w Try.underlying27 ⟨b, 0, none⟩ 1 1 (ccells [m]) rfl (fun j u hj => by
    rw [Addr.add_none, Nat.zero_add]
    refine cell_blk h j ?_
    have e : ccells [m] = m.cs.toList := by simp [ccells]
    rw [e, Array.getElem?_toList] at hj
    exact hj) (fun v hv => by
    have e : ccells [m] = m.cs.toList := by simp [ccells]
    rw [e] at hv
    simp [Cm.cs] at hv
    rcases hv with rfl | rfl | rfl | rfl | rfl | rfl | rfl | rfl | rfl | rfl | rfl <;> rfl)
/-- The two lists on their way. -/
structure OS (w wr : World) (ms : List Cm) (i : Nat) (p : Option Addr) (k c : Nat) (q : Option Addr) (k' c' : Nat) : Prop where
  nums : NRow w.heap.size wr p k c (numsL ms i)
  parts : CRow w.heap.size wr q k' c' (partsL ms i)
  kept : Kept (fun _ => False) w wr
theorem OS.both {w wr wi w9 wj w8 : World} {ms : List Cm} {i : Nat} {p p9 q q8 : Option Addr} {k c c9 k' c' c8 : Nat} {o o' : Obj} {m : Cm} (h : OS w wr ms i p k c q k' c') (hm : ms[i]? = some m) (hp : m.cl.part = true) (ho : w9.ownsRow w.heap.size 3 1 (.slice p9 (k + 1) c9) (k + 1) (intsN (numsL ms i) ++ intsN [i])) (e : wi = wr.alloc o) (hg : wi.grownBy w9 (Value.slice p k c).ownBlock) (ho' : w8.ownsRow w.heap.size 38 11 (.slice q8 (k' + 1) c8) (k' + 1) (ccells (partsL ms i) ++ ccells [m])) (e' : wj = w9.alloc o') (hg' : wj.grownBy w8 (Value.slice q k' c').ownBlock) : OS w w8 ms (i + 1) p9 (k + 1) c9 q8 (k' + 1) c8 := by
  have en : numsL ms (i + 1) = numsL ms i ++ [i] := by
    conv => lhs; unfold numsL
    rw [hm]
    simp [hp]
  have ep : partsL ms (i + 1) = partsL ms i ++ [m] := by
    conv => lhs; unfold partsL
    rw [hm]
    simp [hp]
  have KG : Kept (fun j => blockOf p = some j) wr w9 := by
    rw [e] at hg
    exact ((Kept.refl (fun j => blockOf p = some j) wr).alloc _).grown hg (fun j _ z => by rw [blockOf_own] at z; exact z)
  have KH : Kept (fun j => blockOf q = some j) w9 w8 := by
    rw [e'] at hg'
    exact ((Kept.refl (fun j => blockOf q = some j) w9).alloc _).grown hg' (fun j _ z => by rw [blockOf_own] at z; exact z)
  have n9 : NRow w.heap.size w9 p9 (k + 1) c9 (numsL ms (i + 1)) := ⟨by rw [en, List.length_append, h.nums.len]; rfl, by rw [en, intsN_append]; exact ho⟩
  have ty : ∀ j, blockOf p9 = some j → ¬ blockOf q = some j := by
    intro j h1 h2
    obtain ⟨cs, hc⟩ := own_type n9.row j h1
    obtain ⟨cs', hc'⟩ := own_type h.parts.row j h2
    have nb : ¬ blockOf p = some j := by
      intro z
      obtain ⟨cs2, hc2⟩ := own_type h.nums.row j z
      rw [hc2] at hc'
      simp at hc'
    have := KG.get hc' nb
    rw [this] at hc
    simp at hc
  refine ⟨n9.off KH ty, ⟨by rw [ep, List.length_append, h.parts.len]; rfl, by rw [ep, ccells_append]; exact ho'⟩, Kept.own (Kept.own h.kept KG (fun j z => (own_lt h.nums.row j z).1)) KH (fun j z => (own_lt h.parts.row j z).1)⟩
theorem OS.skip {w wr w' : World} {ms : List Cm} {i : Nat} {p : Option Addr} {k c : Nat} {q : Option Addr} {k' c' : Nat} {m : Cm} (h : OS w wr ms i p k c q k' c') (hm : ms[i]? = some m) (hp : m.cl.part = false) (K : Kept (fun _ => False) wr w') : OS w w' ms (i + 1) p k c q k' c' := by
  have en : numsL ms (i + 1) = numsL ms i := by
    conv => lhs; unfold numsL
    rw [hm]
    simp [hp]
  have ep : partsL ms (i + 1) = partsL ms i := by
    conv => lhs; unfold partsL
    rw [hm]
    simp [hp]
  refine ⟨?_, ?_, h.kept.trans K (fun _ _ z => z)⟩
  · rw [en]; exact h.nums.k0 K
  · rw [ep]; exact h.parts.k0 K
theorem OS.k0 {w wr w' : World} {ms : List Cm} {i : Nat} {p : Option Addr} {k c : Nat} {q : Option Addr} {k' c' : Nat} (h : OS w wr ms i p k c q k' c') (K : Kept (fun _ => False) wr w') : OS w w' ms i p k c q k' c' := ⟨h.nums.k0 K, h.parts.k0 K, h.kept.trans K (fun _ _ z => z)⟩
/-- What One answers, in memory. -/
structure OneQ (ms : List Cm) (w : World) (q : Option Addr) (k c : Nat) (ok : Bool) (er : Int) (w' : World) : Prop where
  ans : ∃ R, OneS (ms.map Cm.cl) R ok er ∧ NRow w.heap.size w' q k c R
  few : k ≤ 24
  k : Kept (fun _ => False) w w'
def RetO (Q : Option Addr → Nat → Nat → Bool → Int → World → Prop) (o : Ending) (w : World) : Prop := ∃ (q : Option Addr) (k c : Nat) (b : Bool) (e : Int), o = .returned (.tuple #[.slice q k c, .bool b, .int .i64 e]) ∧ Q q k c b e w
theorem RetO.mk {Q : Option Addr → Nat → Nat → Bool → Int → World → Prop} {o : Ending} {w : World} (q : Option Addr) (k c : Nat) (b : Bool) (e : Int) (h : o = .returned (.tuple #[.slice q k c, .bool b, .int .i64 e])) (hq : Q q k c b e w) : RetO Q o w := ⟨q, k, c, b, e, h, hq⟩
theorem NRow.nil (b0 : Nat) (w : World) : NRow b0 w none 0 0 [] := ⟨rfl, ⟨rfl, .inl ⟨rfl, rfl⟩⟩⟩
/-- The order on its way to the calls' own numbers. -/
def mixed (g : Nat → Nat) (R : List Nat) (j : Nat) : List Nat := (R.take j).map g ++ R.drop j
theorem mixed_at {g : Nat → Nat} {R : List Nat} {j r : Nat} (h : R[j]? = some r) : (mixed g R j)[j]? = some r ∧ (mixed g R j).set j (g r) = mixed g R (j + 1) := by
  obtain ⟨h1, h2⟩ := List.getElem?_eq_some_iff.1 h
  have el : ((R.take j).map g).length = j := by rw [List.length_map, List.length_take]; omega
  have ed : R.drop j = r :: R.drop (j + 1) := by rw [List.drop_eq_getElem_cons h1, h2]
  unfold mixed
  constructor
  · rw [List.getElem?_append_right (by omega), el, Nat.sub_self, ed]
    rfl
  · rw [List.set_append_right _ _ (by omega), el, Nat.sub_self, ed, List.set_cons_zero, List.take_add_one, h]
    simp
end Go.Proofs.Ytodmakcklacbfaa
