import Derived.Test.YtodmakcklacbfaaNNew
namespace Go.Proofs.Ytodmakcklacbfaa
open Go.RowKit 

/-- The calls that have a part, and their numbers, of the first i. -/
def numsL (ms : List Cm) : Nat → List Nat
  | 0 => []
  | i + 1 => numsL ms i ++ (match ms[i]? with
    | some m => if m.cl.part = true then [i] else []
    | none => [])
def partsL (ms : List Cm) : Nat → List Cm
  | 0 => []
  | i + 1 => partsL ms i ++ (match ms[i]? with
    | some m => if m.cl.part = true then [m] else []
    | none => [])
theorem parts_len (ms : List Cm) : ∀ i, (numsL ms i).length = (partsL ms i).length ∧ (partsL ms i).length ≤ i
  | 0 => ⟨rfl, Nat.le_refl _⟩
  | i + 1 => by
    obtain ⟨h1, h2⟩ := parts_len ms i
    unfold numsL partsL
    rw [List.length_append, List.length_append, h1]
    cases ms[i]? with
    | none => exact ⟨rfl, by simp; omega⟩
    | some m =>
      by_cases q : m.cl.part = true
      · simp [q]; omega
      · simp [q]; omega
theorem nums_lt (ms : List Cm) : ∀ i, ∀ x ∈ numsL ms i, x < i
  | 0, x, h => by cases h
  | i + 1, x, h => by
    unfold numsL at h
    rcases List.mem_append.1 h with z | z
    · have := nums_lt ms i x z
      omega
    · cases q : ms[i]? with
      | none => rw [q] at z; cases z
      | some m =>
        rw [q] at z
        by_cases r : m.cl.part = true
        · simp [r] at z; omega
        · simp [r] at z
theorem parts_at (ms : List Cm) : ∀ (i k x : Nat), (numsL ms i)[k]? = some x → (partsL ms i)[k]? = ms[x]? ∧ ∃ m : Cm, ms[x]? = some m ∧ m.cl.part = true
  | 0, k, x, h => by simp [numsL] at h
  | i + 1, k, x, h => by
    have hl := (parts_len ms i).1
    unfold numsL at h
    unfold partsL
    by_cases hk : k < (numsL ms i).length
    · rw [List.getElem?_append_left hk] at h
      rw [List.getElem?_append_left (by rw [← hl]; exact hk)]
      exact parts_at ms i k x h
    · rw [List.getElem?_append_right (by omega)] at h
      rw [List.getElem?_append_right (by omega), ← hl]
      cases q : ms[i]? with
      | none => rw [q] at h; simp at h
      | some m =>
        rw [q] at h
        by_cases r : m.cl.part = true
        · simp only [r, if_true] at h ⊢
          have e : k - (numsL ms i).length = 0 := by
            obtain ⟨h1, _⟩ := List.getElem?_eq_some_iff.1 h
            simp at h1
            omega
          rw [e] at h ⊢
          simp at h ⊢
          subst h
          exact ⟨q.symm, m, q, r⟩
        · simp [r] at h
theorem nums_up (ms : List Cm) : ∀ i, (numsL ms i).Pairwise (· < ·)
  | 0 => List.Pairwise.nil
  | i + 1 => by
    unfold numsL
    rw [List.pairwise_append]
    refine ⟨nums_up ms i, ?_, fun a ha b hb => ?_⟩
    · cases ms[i]? with
      | none => exact List.Pairwise.nil
      | some m =>
        by_cases r : m.cl.part = true
        · simp [r]
        · simp [r]
    · have := nums_lt ms i a ha
      cases q : ms[i]? with
      | none => rw [q] at hb; cases hb
      | some m =>
        rw [q] at hb
        by_cases r : m.cl.part = true
        · simp [r] at hb; omega
        · simp [r] at hb
theorem nums_mem (ms : List Cm) : ∀ i x, x ∈ numsL ms i ↔ x < i ∧ ∃ m : Cm, ms[x]? = some m ∧ m.cl.part = true
  | 0, x => by simp [numsL]
  | i + 1, x => by
    unfold numsL
    rw [List.mem_append, nums_mem ms i x]
    constructor
    · rintro (⟨h1, h2⟩ | h)
      · exact ⟨by omega, h2⟩
      · cases q : ms[i]? with
        | none => rw [q] at h; cases h
        | some m =>
          rw [q] at h
          by_cases r : m.cl.part = true
          · simp [r] at h
            subst h
            exact ⟨by omega, m, q, r⟩
          · simp [r] at h
    · rintro ⟨h1, m, h2, h3⟩
      by_cases e : x = i
      · subst e
        right
        rw [h2]
        simp [h3]
      · exact .inl ⟨by omega, m, h2, h3⟩
theorem parts_filter (ms : List Cm) : ∀ i, i ≤ ms.length → (partsL ms i).map Cm.cl = ((ms.take i).map Cm.cl).filter Cl.part
  | 0, _ => by simp [partsL]
  | i + 1, h => by
    have hi : i < ms.length := by omega
    unfold partsL
    rw [List.map_append, parts_filter ms i (by omega), List.take_add_one, List.map_append, List.filter_append, List.getElem?_eq_getElem hi]
    congr 1
    by_cases r : ms[i].cl.part = true
    · simp [r]
    · simp [r]
theorem vOf_some {ps : List Cm} {k : Nat} {m : Cm} (h : ps[k]? = some m) : vOf ps k = if m.put = false ∧ m.st = 76 then -1 else ((ps.findIdx fun s => decide (s.val = m.val) : Nat) : Int) := by
  unfold vOf
  rw [h]
theorem findIdx_val {ps : List Cm} {k : Nat} {m : Cm} (h : ps[k]? = some m) : ∃ s, ps[ps.findIdx fun s => decide (s.val = m.val)]? = some s ∧ s.val = m.val := by
  have hl : (ps.findIdx fun s => decide (s.val = m.val)) < ps.length := by
    rw [List.findIdx_lt_length]
    exact ⟨m, List.mem_of_getElem? h, by simp⟩
  refine ⟨_, List.getElem?_eq_getElem hl, ?_⟩
  have := List.findIdx_getElem (w := hl)
  simpa using this
/-- What a call's value is. -/
def Cm.vl (m : Cm) : Option (List Nat) := if m.put = true then some m.val else if m.st = 76 then none else some m.val
theorem vl_none (m : Cm) : m.vl = none ↔ m.put = false ∧ m.st = 76 := by
  unfold Cm.vl
  cases m.put <;> by_cases h : m.st = 76 <;> simp [h]
theorem vl_some {m : Cm} (h : ¬ (m.put = false ∧ m.st = 76)) : m.vl = some m.val := by
  unfold Cm.vl
  cases hp : m.put
  · by_cases e : m.st = 76
    · exact absurd ⟨hp, e⟩ h
    · simp [e]
  · rfl
theorem vOf_eq {ps : List Cm} {k k' : Nat} {m m' : Cm} (h : ps[k]? = some m) (h' : ps[k']? = some m') : vOf ps k = vOf ps k' ↔ m.vl = m'.vl := by
  rw [vOf_some h, vOf_some h']
  by_cases c : m.put = false ∧ m.st = 76
  · rw [if_pos c, (vl_none m).2 c]
    by_cases c' : m'.put = false ∧ m'.st = 76
    · rw [if_pos c', (vl_none m').2 c']
      simp
    · rw [if_neg c', vl_some c']
      constructor
      · intro z; omega
      · intro z; cases z
  · rw [if_neg c, vl_some c]
    by_cases c' : m'.put = false ∧ m'.st = 76
    · rw [if_pos c', (vl_none m').2 c']
      constructor
      · intro z; omega
      · intro z; cases z
    · rw [if_neg c', vl_some c']
      obtain ⟨s, s1, s2⟩ := findIdx_val h
      obtain ⟨s', t1, t2⟩ := findIdx_val h'
      constructor
      · intro z
        have z : (ps.findIdx fun s => decide (s.val = m.val)) = ps.findIdx fun s => decide (s.val = m'.val) := by omega
        rw [z, t1] at s1
        have := Option.some.inj s1
        rw [← s2, ← this, t2]
      · intro z
        have z := Option.some.inj z
        rw [z]
theorem parts_pts (ms : List Cm) : Pts (ms.map Cm.cl) (numsL ms ms.length) (fdOf (partsL ms ms.length)) := by
  have at' : ∀ (k i : Nat) (c : Cl), (numsL ms ms.length)[k]? = some i → (ms.map Cm.cl)[i]? = some c → ∃ m : Cm, (partsL ms ms.length)[k]? = some m ∧ c = m.cl := by
    intro k i c h1 h2
    obtain ⟨a1, m, a2, _⟩ := parts_at ms ms.length k i h1
    rw [a2] at a1
    rw [List.getElem?_map, a2] at h2
    exact ⟨m, a1, (Option.some.inj h2).symm⟩
  have vv : ∀ m : Cm, (if m.cl.put = true then some m.cl.val else m.cl.told) = m.vl := fun m => rfl
  refine ⟨nums_up ms _, fun i => ?_, (parts_len ms _).1, fun k i c h1 h2 => ?_, fun k i c h1 h2 => ?_, fun k i c h1 h2 => ?_, fun k i c h1 h2 => ?_, fun k i c k' i' c' h1 h2 h3 h4 => ?_, fun k i c h1 h2 => ?_⟩
  · rw [nums_mem]
    constructor
    · rintro ⟨_, m, h2, h3⟩
      exact ⟨m.cl, by rw [List.getElem?_map, h2]; rfl, h3⟩
    · rintro ⟨c, h1, h2⟩
      rw [List.getElem?_map] at h1
      cases q : ms[i]? with
      | none => rw [q] at h1; cases h1
      | some m =>
        rw [q] at h1
        have h1 := Option.some.inj h1
        refine ⟨(List.getElem?_eq_some_iff.1 q).1, m, rfl, ?_⟩
        have h1 : m.cl = c := h1
        rw [h1]
        exact h2
  · obtain ⟨m, e1, e2⟩ := at' k i c h1 h2
    show (((partsL ms ms.length)[k]?).map fun m => m.put).getD false = c.put
    rw [e1, e2]
    rfl
  · obtain ⟨m, e1, e2⟩ := at' k i c h1 h2
    show (((partsL ms ms.length)[k]?).map fun m => m.put && m.opn).getD false = c.open_
    rw [e1, e2]
    rfl
  · obtain ⟨m, e1, e2⟩ := at' k i c h1 h2
    show (((partsL ms ms.length)[k]?).map fun m => m.frm).getD 0 = c.frm
    rw [e1, e2]
    rfl
  · obtain ⟨m, e1, e2⟩ := at' k i c h1 h2
    show (((partsL ms ms.length)[k]?).map fun m => m.to).getD 0 = c.to
    rw [e1, e2]
    rfl
  · obtain ⟨m, e1, e2⟩ := at' k i c h1 h2
    obtain ⟨m', e3, e4⟩ := at' k' i' c' h3 h4
    rw [e2, e4, vv, vv]
    exact vOf_eq e1 e3
  · obtain ⟨m, e1, e2⟩ := at' k i c h1 h2
    rw [e2, vv, vl_none]
    show vOf (partsL ms ms.length) k = -1 ↔ _
    rw [vOf_some e1]
    by_cases c' : m.put = false ∧ m.st = 76
    · rw [if_pos c']
      exact ⟨fun _ => c', fun _ => rfl⟩
    · rw [if_neg c']
      exact ⟨fun z => by omega, fun z => absurd z c'⟩
theorem one_good {ms : List Cm} {R : List Nat} (nb : ∀ c ∈ ms.map Cm.cl, c.bad = false) (hr : (fdOf (partsL ms ms.length)).Run R 0 (-1)) (le : ∀ o, (fdOf (partsL ms ms.length)).Run o 0 (-1) → ¬ o < R) (few : (partsL ms ms.length).length ≤ 24) : OneS (ms.map Cm.cl) (R.map fun k => (numsL ms ms.length).getD k 0) true 0 := by
  have e : ((ms.map Cm.cl).filter Cl.part).length = (partsL ms ms.length).length := by
    have := parts_filter ms ms.length (Nat.le_refl _)
    rw [List.take_length] at this
    rw [← this, List.length_map]
  refine ⟨fun ⟨c, hc, h⟩ => ?_, fun _ h => ?_, fun _ _ => ⟨rfl, fun _ => (parts_pts ms).first hr le, fun z => by cases z⟩⟩
  · rw [nb c hc] at h; cases h
  · rw [e] at h; omega
theorem one_none {ms : List Cm} (nb : ∀ c ∈ ms.map Cm.cl, c.bad = false) (no : ¬ (fdOf (partsL ms ms.length)).Can 0 (-1)) (few : (partsL ms ms.length).length ≤ 24) : OneS (ms.map Cm.cl) [] false 0 := by
  have e : ((ms.map Cm.cl).filter Cl.part).length = (partsL ms ms.length).length := by
    have := parts_filter ms ms.length (Nat.le_refl _)
    rw [List.take_length] at this
    rw [← this, List.length_map]
  refine ⟨fun ⟨c, hc, h⟩ => ?_, fun _ h => ?_, fun _ _ => ⟨rfl, fun z => (by cases z), fun _ => ⟨rfl, (parts_pts ms).never no⟩⟩⟩
  · rw [nb c hc] at h; cases h
  · rw [e] at h; omega
theorem one_heavy {ms : List Cm} (nb : ∀ c ∈ ms.map Cm.cl, c.bad = false) (many : 24 < (partsL ms ms.length).length) : OneS (ms.map Cm.cl) [] false 4 := by
  have e : ((ms.map Cm.cl).filter Cl.part).length = (partsL ms ms.length).length := by
    have := parts_filter ms ms.length (Nat.le_refl _)
    rw [List.take_length] at this
    rw [← this, List.length_map]
  refine ⟨fun ⟨c, hc, h⟩ => ?_, fun _ _ => ⟨rfl, rfl, rfl⟩, fun _ h => ?_⟩
  · rw [nb c hc] at h; cases h
  · rw [e] at h; omega
theorem one_bad {ms : List Cm} {c : Cl} (hc : c ∈ ms.map Cm.cl) (hb : c.bad = true) : OneS (ms.map Cm.cl) [] false 1 := by
  refine ⟨fun _ => ⟨rfl, rfl, rfl⟩, fun h _ => ?_, fun h _ => ?_⟩
  · rw [h c hc] at hb; cases hb
  · rw [h c hc] at hb; cases hb
end Go.Proofs.Ytodmakcklacbfaa

namespace Go.Proofs.Ytodmakcklacbfaa
open Go.RowKit 

def ccells (ms : List Cm) : List Value := ms.flatMap fun m => m.cs.toList
theorem ccells_append (a b : List Cm) : ccells (a ++ b) = ccells a ++ ccells b := by simp [ccells]
theorem ccells_get : ∀ (ms : List Cm) (i : Nat) (h : i < ms.length) (k : Nat), k < 11 → (ccells ms)[i * 11 + k]? = (ms[i].cs)[k]?
  | [], i, h, _, _ => by simp at h
  | m :: ms, i, h, k, hk => by
    have e : ccells (m :: ms) = m.cs.toList ++ ccells ms := by simp [ccells]
    have el : m.cs.toList.length = 11 := rfl
    rw [e]
    cases i with
    | zero =>
      rw [List.getElem?_append_left (by rw [el]; omega), Nat.zero_mul, Nat.zero_add, Array.getElem?_toList]
      rfl
    | succ i =>
      rw [List.getElem?_append_right (by rw [el]; omega), el, show (i + 1) * 11 + k - 11 = i * 11 + k by omega]
      exact ccells_get ms i (by simpa using h) k hk
theorem Try.info38c : (Try.prog.info? 38).map (fun i => (i.zero, i.size, i.bytes)) = some (some (.agg #[.int .i64 0, .int .i64 0, .bool false, .string (ByteArray.mk #[]), .slice none 0 0, .int .i64 0, .int .i64 0, .int .i64 0, .bool false, .int .i64 0, .int .i64 0]), 11, 112) := by kernel_rfl
/-- A list of calls of one's own. -/
structure CRow (b0 : Nat) (w : World) (p : Option Addr) (k c : Nat) (ps : List Cm) : Prop where
  len : ps.length = k
  row : w.ownsRow b0 38 11 (.slice p k c) k (ccells ps)
theorem CRow.k0 {b0 : Nat} {w w' : World} {p : Option Addr} {k c : Nat} {ps : List Cm} (h : CRow b0 w p k c ps) (K : Kept (fun _ => False) w w') : CRow b0 w' p k c ps := ⟨h.len, K.owns h.row (fun _ _ z => z)⟩
theorem CRow.rd {b0 : Nat} {w : World} {p : Option Addr} {k c : Nat} {ps : List Cm} (h : CRow b0 w p k c ps) (r : ∀ m ∈ ps, Reads w m.va m.vn m.vc m.val) : CRd w p k c ps := by
  obtain ⟨r1, r2⟩ := own_room h.row
  refine ⟨h.len, r1, r2, fun h0 => ?_, r⟩
  rcases h.row.2 with ⟨_, hn⟩ | ⟨g, cap, cur, z, _⟩
  · omega
  · have z : Value.slice p k c = .slice (some ⟨g, 0, none⟩) k cap := z
    injection z with z1 _ z3
    subst z1
    subst z3
    have hc := h.row.cells (g := g) rfl
    refine ⟨g, 0, rfl, fun i hi j v hv => ?_⟩
    have hj : j < 11 := by
      obtain ⟨h1, _⟩ := Array.getElem?_eq_some_iff.1 hv
      have : ps[i].cs.size = 11 := rfl
      omega
    have := hc (i * 11 + j) v (by rw [ccells_get ps i hi j hj]; exact hv)
    rw [Addr.add_none, Nat.zero_add] at this
    rw [Nat.zero_add]
    exact this
theorem src_call {w : World} {b : Nat} {m : Cm} (h : w.heap[b]? = some (.cells m.cs 38 (0, 0))) : Src Try.prog 11 27 (.slice (some ⟨b, 0, none⟩) 1 1) 1 (ccells [m]) w :=
  Src.ofSlice w Try.underlying27 ⟨b, 0, none⟩ 1 1 (ccells [m]) rfl (fun j u hj => by
    rw [Addr.add_none, Nat.zero_add]
    refine cell_blk h j ?_
    have e : ccells [m] = m.cs.toList := by simp [ccells]
    rw [e, Array.getElem?_toList] at hj
    exact hj) (fun v hv => by
    have e : ccells [m] = m.cs.toList := by simp [ccells]
    rw [e] at hv
    simp [Cm.cs] at hv
    rcases hv with rfl | rfl | rfl | rfl | rfl | rfl | rfl | rfl | rfl | rfl | rfl <;> rfl)
/-- The two lists on their way. -/
structure OS (w wr : World) (ms : List Cm) (i : Nat) (p : Option Addr) (k c : Nat) (q : Option Addr) (k' c' : Nat) : Prop where
  nums : NRow w.heap.size wr p k c (numsL ms i)
  parts : CRow w.heap.size wr q k' c' (partsL ms i)
  kept : Kept (fun _ => False) w wr
theorem OS.both {w wr wi w9 wj w8 : World} {ms : List Cm} {i : Nat} {p p9 q q8 : Option Addr} {k c c9 k' c' c8 : Nat} {o o' : Obj} {m : Cm} (h : OS w wr ms i p k c q k' c') (hm : ms[i]? = some m) (hp : m.cl.part = true) (ho : w9.ownsRow w.heap.size 3 1 (.slice p9 (k + 1) c9) (k + 1) (intsN (numsL ms i) ++ intsN [i])) (e : wi = wr.alloc o) (hg : wi.grownBy w9 (Value.slice p k c).ownBlock) (ho' : w8.ownsRow w.heap.size 38 11 (.slice q8 (k' + 1) c8) (k' + 1) (ccells (partsL ms i) ++ ccells [m])) (e' : wj = w9.alloc o') (hg' : wj.grownBy w8 (Value.slice q k' c').ownBlock) : OS w w8 ms (i + 1) p9 (k + 1) c9 q8 (k' + 1) c8 := by
  have en : numsL ms (i + 1) = numsL ms i ++ [i] := by
    conv => lhs; unfold numsL
    rw [hm]
    simp [hp]
  have ep : partsL ms (i + 1) = partsL ms i ++ [m] := by
    conv => lhs; unfold partsL
    rw [hm]
    simp [hp]
  have KG : Kept (fun j => blockOf p = some j) wr w9 := by
    rw [e] at hg
    exact ((Kept.refl (fun j => blockOf p = some j) wr).alloc _).grown hg (fun j _ z => by rw [blockOf_own] at z; exact z)
  have KH : Kept (fun j => blockOf q = some j) w9 w8 := by
    rw [e'] at hg'
    exact ((Kept.refl (fun j => blockOf q = some j) w9).alloc _).grown hg' (fun j _ z => by rw [blockOf_own] at z; exact z)
  have n9 : NRow w.heap.size w9 p9 (k + 1) c9 (numsL ms (i + 1)) := ⟨by rw [en, List.length_append, h.nums.len]; rfl, by rw [en, intsN_append]; exact ho⟩
  have ty : ∀ j, blockOf p9 = some j → ¬ blockOf q = some j := by
    intro j h1 h2
    obtain ⟨cs, hc⟩ := own_type n9.row j h1
    obtain ⟨cs', hc'⟩ := own_type h.parts.row j h2
    have nb : ¬ blockOf p = some j := by
      intro z
      obtain ⟨cs2, hc2⟩ := own_type h.nums.row j z
      rw [hc2] at hc'
      simp at hc'
    have := KG.get hc' nb
    rw [this] at hc
    simp at hc
  refine ⟨n9.off KH ty, ⟨by rw [ep, List.length_append, h.parts.len]; rfl, by rw [ep, ccells_append]; exact ho'⟩, Kept.own (Kept.own h.kept KG (fun j z => (own_lt h.nums.row j z).1)) KH (fun j z => (own_lt h.parts.row j z).1)⟩
theorem OS.skip {w wr w' : World} {ms : List Cm} {i : Nat} {p : Option Addr} {k c : Nat} {q : Option Addr} {k' c' : Nat} {m : Cm} (h : OS w wr ms i p k c q k' c') (hm : ms[i]? = some m) (hp : m.cl.part = false) (K : Kept (fun _ => False) wr w') : OS w w' ms (i + 1) p k c q k' c' := by
  have en : numsL ms (i + 1) = numsL ms i := by
    conv => lhs; unfold numsL
    rw [hm]
    simp [hp]
  have ep : partsL ms (i + 1) = partsL ms i := by
    conv => lhs; unfold partsL
    rw [hm]
    simp [hp]
  refine ⟨?_, ?_, h.kept.trans K (fun _ _ z => z)⟩
  · rw [en]; exact h.nums.k0 K
  · rw [ep]; exact h.parts.k0 K
theorem OS.k0 {w wr w' : World} {ms : List Cm} {i : Nat} {p : Option Addr} {k c : Nat} {q : Option Addr} {k' c' : Nat} (h : OS w wr ms i p k c q k' c') (K : Kept (fun _ => False) wr w') : OS w w' ms i p k c q k' c' := ⟨h.nums.k0 K, h.parts.k0 K, h.kept.trans K (fun _ _ z => z)⟩
/-- What One answers, in memory. -/
structure OneQ (ms : List Cm) (w : World) (q : Option Addr) (k c : Nat) (ok : Bool) (er : Int) (w' : World) : Prop where
  ans : ∃ R, OneS (ms.map Cm.cl) R ok er ∧ NRow w.heap.size w' q k c R
  few : k ≤ 24
  k : Kept (fun _ => False) w w'
def RetO (Q : Option Addr → Nat → Nat → Bool → Int → World → Prop) (o : Ending) (w : World) : Prop := ∃ (q : Option Addr) (k c : Nat) (b : Bool) (e : Int), o = .returned (.tuple #[.slice q k c, .bool b, .int .i64 e]) ∧ Q q k c b e w
theorem RetO.mk {Q : Option Addr → Nat → Nat → Bool → Int → World → Prop} {o : Ending} {w : World} (q : Option Addr) (k c : Nat) (b : Bool) (e : Int) (h : o = .returned (.tuple #[.slice q k c, .bool b, .int .i64 e])) (hq : Q q k c b e w) : RetO Q o w := ⟨q, k, c, b, e, h, hq⟩
theorem NRow.nil (b0 : Nat) (w : World) : NRow b0 w none 0 0 [] := ⟨rfl, ⟨rfl, .inl ⟨rfl, rfl⟩⟩⟩
/-- The order on its way to the calls' own numbers. -/
def mixed (g : Nat → Nat) (R : List Nat) (j : Nat) : List Nat := (R.take j).map g ++ R.drop j
theorem mixed_at {g : Nat → Nat} {R : List Nat} {j r : Nat} (h : R[j]? = some r) : (mixed g R j)[j]? = some r ∧ (mixed g R j).set j (g r) = mixed g R (j + 1) := by
  obtain ⟨h1, h2⟩ := List.getElem?_eq_some_iff.1 h
  have el : ((R.take j).map g).length = j := by rw [List.length_map, List.length_take]; omega
  have ed : R.drop j = r :: R.drop (j + 1) := by rw [List.drop_eq_getElem_cons h1, h2]
  unfold mixed
  constructor
  · rw [List.getElem?_append_right (by omega), el, Nat.sub_self, ed]
    rfl
  · rw [List.set_append_right _ _ (by omega), el, Nat.sub_self, ed, List.set_cons_zero, List.take_add_one, h]
    simp
end Go.Proofs.Ytodmakcklacbfaa
