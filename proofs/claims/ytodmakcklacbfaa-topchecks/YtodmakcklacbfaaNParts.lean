import Derived.Test.YtodmakcklacbfaaNNew
namespace Go.Proofs.Ytodmakcklacbfaa
open Go.RowKit 

/-- The calls that have a part, and their numbers, of the first i. -/
def numsL (ms : List Cm) : Nat → List Nat
  | 0 => []
  | i + 1 => numsL ms i ++ (match ms[i]? with
    | some m => if m.cl.part = true then [i] else []
    | none => [])
def partsL (ms : List Cm) : Nat → List Cm
  | 0 => []
  | i + 1 => partsL ms i ++ (match ms[i]? with
    | some m => if m.cl.part = true then [m] else []
    | none => [])
theorem parts_len (ms : List Cm) : ∀ i, (numsL ms i).length = (partsL ms i).length ∧ (partsL ms i).length ≤ i
  | 0 => ⟨rfl, Nat.le_refl _⟩
  | i + 1 => by
    obtain ⟨h1, h2⟩ := parts_len ms i
    unfold numsL partsL
    rw [List.length_append, List.length_append, h1]
    cases ms[i]? with
    | none => exact ⟨rfl, by simp; omega⟩
    | some m =>
      by_cases q : m.cl.part = true
      · simp [q]; omega
      · simp [q]; omega
theorem nums_lt (ms : List Cm) : ∀ i, ∀ x ∈ numsL ms i, x < i
  | 0, x, h => by cases h
  | i + 1, x, h => by
    unfold numsL at h
    rcases List.mem_append.1 h with z | z
    · have := nums_lt ms i x z
      omega
    · cases q : ms[i]? with
      | none => rw [q] at z; cases z
      | some m =>
        rw [q] at z
        by_cases r : m.cl.part = true
        · simp [r] at z; omega
        · simp [r] at z
theorem parts_at (ms : List Cm) : ∀ (i k x : Nat), (numsL ms i)[k]? = some x → (partsL ms i)[k]? = ms[x]? ∧ ∃ m : Cm, ms[x]? = some m ∧ m.cl.part = true
  | 0, k, x, h => by simp [numsL] at h
  | i + 1, k, x, h => by
    have hl := (parts_len ms i).1
    unfold numsL at h
    unfold partsL
    by_cases hk : k < (numsL ms i).length
    · rw [List.getElem?_append_left hk] at h
      rw [List.getElem?_append_left (by rw [← hl]; exact hk)]
      exact parts_at ms i k x h
    · rw [List.getElem?_append_right (by omega)] at h
      rw [List.getElem?_append_right (by omega), ← hl]
      cases q : ms[i]? with
      | none => rw [q] at h; simp at h
      | some m =>
        rw [q] at h
        by_cases r : m.cl.part = true
        · simp only [r, if_true] at h ⊢
          have e : k - (numsL ms i).length = 0 := by
            obtain ⟨h1, _⟩ := List.getElem?_eq_some_iff.1 h
            simp at h1
            omega
          rw [e] at h ⊢
          simp at h ⊢
          subst h
          exact ⟨q.symm, m, q, r⟩
        · simp [r] at h
theorem nums_up (ms : List Cm) : ∀ i, (numsL ms i).Pairwise (· < ·)
  | 0 => List.Pairwise.nil
  | i + 1 => by
    unfold numsL
    rw [List.pairwise_append]
    refine ⟨nums_up ms i, ?_, fun a ha b hb => ?_⟩
    · cases ms[i]? with
      | none => exact List.Pairwise.nil
      | some m =>
        by_cases r : m.cl.part = true
        · simp [r]
        · simp [r]
    · have := nums_lt ms i a ha
      cases q : ms[i]? with
      | none => rw [q] at hb; cases hb
      | some m =>
        rw [q] at hb
        by_cases r : m.cl.part = true
        · simp [r] at hb; omega
        · simp [r] at hb
theorem nums_mem (ms : List Cm) : ∀ i x, x ∈ numsL ms i ↔ x < i ∧ ∃ m : Cm, ms[x]? = some m ∧ m.cl.part = true
  | 0, x => by simp [numsL]
  | i + 1, x => by
    unfold numsL
    rw [List.mem_append, nums_mem ms i x]
    constructor
    · rintro (⟨h1, h2⟩ | h)
      · exact ⟨by omega, h2⟩
      · cases q : ms[i]? with
        | none => rw [q] at h; cases h
        | some m =>
          rw [q] at h
          by_cases r : m.cl.part = true
          · simp [r] at h
            subst h
            exact ⟨by omega, m, q, r⟩
          · simp [r] at h
    · rintro ⟨h1, m, h2, h3⟩
      by_cases e : x = i
      · subst e
        right
        rw [h2]
        simp [h3]
      · exact .inl ⟨by omega, m, h2, h3⟩
theorem parts_filter (ms : List Cm) : ∀ i, i ≤ ms.length → (partsL ms i).map Cm.cl = ((ms.take i).map Cm.cl).filter Cl.part
  | 0, _ => by simp [partsL]
  | i + 1, h => by
    have hi : i < ms.length := by omega
    unfold partsL
    rw [List.map_append, parts_filter ms i (by omega), List.take_add_one, List.map_append, List.filter_append, List.getElem?_eq_getElem hi]
    congr 1
    by_cases r : ms[i].cl.part = true
    · simp [r]
    · simp [r]
theorem vOf_some {ps : List Cm} {k : Nat} {m : Cm} (h : ps[k]? = some m) : vOf ps k = if m.put = false ∧ m.st = 76 then -1 else ((ps.findIdx fun s => decide (s.val = m.val) : Nat) : Int) := by
  unfold vOf
  rw [h]
theorem findIdx_val {ps : List Cm} {k : Nat} {m : Cm} (h : ps[k]? = some m) : ∃ s, ps[ps.findIdx fun s => decide (s.val = m.val)]? = some s ∧ s.val = m.val := by
  have hl : (ps.findIdx fun s => decide (s.val = m.val)) < ps.length := by
    rw [List.findIdx_lt_length]
    exact ⟨m, List.mem_of_getElem? h, by simp⟩
  refine ⟨_, List.getElem?_eq_getElem hl, ?_⟩
  have := List.findIdx_getElem (w := hl)
  simpa using this
/-- What a call's value is. -/
def Cm.vl (m : Cm) : Option (List Nat) := if m.put = true then some m.val else if m.st = 76 then none else some m.val
theorem vl_none (m : Cm) : m.vl = none ↔ m.put = false ∧ m.st = 76 := by
  unfold Cm.vl
  cases m.put <;> by_cases h : m.st = 76 <;> simp [h]
theorem vl_some {m : Cm} (h : ¬ (m.put = false ∧ m.st = 76)) : m.vl = some m.val := by
  unfold Cm.vl
  cases hp : m.put
  · by_cases e : m.st = 76
    · exact absurd ⟨hp, e⟩ h
    · simp [e]
  · rfl
theorem vOf_eq {ps : List Cm} {k k' : Nat} {m m' : Cm} (h : ps[k]? = some m) (h' : ps[k']? = some m') : vOf ps k = vOf ps k' ↔ m.vl = m'.vl := by
  rw [vOf_some h, vOf_some h']
  by_cases c : m.put = false ∧ m.st = 76
  · rw [if_pos c, (vl_none m).2 c]
    by_cases c' : m'.put = false ∧ m'.st = 76
    · rw [if_pos c', (vl_none m').2 c']
      simp
    · rw [if_neg c', vl_some c']
      constructor
      · intro z; omega
      · intro z; cases z
  · rw [if_neg c, vl_some c]
    by_cases c' : m'.put = false ∧ m'.st = 76
    · rw [if_pos c', (vl_none m').2 c']
      constructor
      · intro z; omega
      · intro z; cases z
    · rw [if_neg c', vl_some c']
      obtain ⟨s, s1, s2⟩ := findIdx_val h
      obtain ⟨s', t1, t2⟩ := findIdx_val h'
      constructor
      · intro z
        have z : (ps.findIdx fun s => decide (s.val = m.val)) = ps.findIdx fun s => decide (s.val = m'.val) := by omega
        rw [z, t1] at s1
        have := Option.some.inj s1
        rw [← s2, ← this, t2]
      · intro z
        have z := Option.some.inj z
        rw [z]
theorem parts_pts (ms : List Cm) : Pts (ms.map Cm.cl) (numsL ms ms.length) (fdOf (partsL ms ms.length)) := by
  have at' : ∀ (k i : Nat) (c : Cl), (numsL ms ms.length)[k]? = some i → (ms.map Cm.cl)[i]? = some c → ∃ m : Cm, (partsL ms ms.length)[k]? = some m ∧ c = m.cl := by
    intro k i c h1 h2
    obtain ⟨a1, m, a2, _⟩ := parts_at ms ms.length k i h1
    rw [a2] at a1
    rw [List.getElem?_map, a2] at h2
    exact ⟨m, a1, (Option.some.inj h2).symm⟩
  have vv : ∀ m : Cm, (if m.cl.put = true then some m.cl.val else m.cl.told) = m.vl := fun m => rfl
  refine ⟨nums_up ms _, fun i => ?_, (parts_len ms _).1, fun k i c h1 h2 => ?_, fun k i c h1 h2 => ?_, fun k i c h1 h2 => ?_, fun k i c h1 h2 => ?_, fun k i c k' i' c' h1 h2 h3 h4 => ?_, fun k i c h1 h2 => ?_⟩
  · rw [nums_mem]
    constructor
    · rintro ⟨_, m, h2, h3⟩
      exact ⟨m.cl, by rw [List.getElem?_map, h2]; rfl, h3⟩
    · rintro ⟨c, h1, h2⟩
      rw [List.getElem?_map] at h1
      cases q : ms[i]? with
      | none => rw [q] at h1; cases h1
      | some m =>
        rw [q] at h1
        have h1 := Option.some.inj h1
        refine ⟨(List.getElem?_eq_some_iff.1 q).1, m, rfl, ?_⟩
        have h1 : m.cl = c := h1
        rw [h1]
        exact h2
  · obtain ⟨m, e1, e2⟩ := at' k i c h1 h2
    show (((partsL ms ms.length)[k]?).map fun m => m.put).getD false = c.put
    rw [e1, e2]
    rfl
  · obtain ⟨m, e1, e2⟩ := at' k i c h1 h2
    show (((partsL ms ms.length)[k]?).map fun m => m.put && m.opn).getD false = c.open_
    rw [e1, e2]
    rfl
  · obtain ⟨m, e1, e2⟩ := at' k i c h1 h2
    show (((partsL ms ms.length)[k]?).map fun m => m.frm).getD 0 = c.frm
    rw [e1, e2]
    rfl
  · obtain ⟨m, e1, e2⟩ := at' k i c h1 h2
    show (((partsL ms ms.length)[k]?).map fun m => m.to).getD 0 = c.to
    rw [e1, e2]
    rfl
  · obtain ⟨m, e1, e2⟩ := at' k i c h1 h2
    obtain ⟨m', e3, e4⟩ := at' k' i' c' h3 h4
    rw [e2, e4, vv, vv]
    exact vOf_eq e1 e3
  · obtain ⟨m, e1, e2⟩ := at' k i c h1 h2
    rw [e2, vv, vl_none]
    show vOf (partsL ms ms.length) k = -1 ↔ _
    rw [vOf_some e1]
    by_cases c' : m.put = false ∧ m.st = 76
    · rw [if_pos c']
      exact ⟨fun _ => c', fun _ => rfl⟩
    · rw [if_neg c']
      exact ⟨fun z => by omega, fun z => absurd z c'⟩
theorem one_good {ms : List Cm} {R : List Nat} (nb : ∀ c ∈ ms.map Cm.cl, c.bad = false) (hr : (fdOf (partsL ms ms.length)).Run R 0 (-1)) (le : ∀ o, (fdOf (partsL ms ms.length)).Run o 0 (-1) → ¬ o < R) (few : (partsL ms ms.length).length ≤ 24) : OneS (ms.map Cm.cl) (R.map fun k => (numsL ms ms.length).getD k 0) true 0 := by
  have e : ((ms.map Cm.cl).filter Cl.part).length = (partsL ms ms.length).length := by
    have := parts_filter ms ms.length (Nat.le_refl _)
    rw [List.take_length] at this
    rw [← this, List.length_map]
  refine ⟨fun ⟨c, hc, h⟩ => ?_, fun _ h => ?_, fun _ _ => ⟨rfl, fun _ => (parts_pts ms).first hr le, fun z => by cases z⟩⟩
  · rw [nb c hc] at h; cases h
  · rw [e] at h; omega
theorem one_none {ms : List Cm} (nb : ∀ c ∈ ms.map Cm.cl, c.bad = false) (no : ¬ (fdOf (partsL ms ms.length)).Can 0 (-1)) (few : (partsL ms ms.length).length ≤ 24) : OneS (ms.map Cm.cl) [] false 0 := by
  have e : ((ms.map Cm.cl).filter Cl.part).length = (partsL ms ms.length).length := by
    have := parts_filter ms ms.length (Nat.le_refl _)
    rw [List.take_length] at this
    rw [← this, List.length_map]
  refine ⟨fun ⟨c, hc, h⟩ => ?_, fun _ h => ?_, fun _ _ => ⟨rfl, fun z => (by cases z), fun _ => ⟨rfl, (parts_pts ms).never no⟩⟩⟩
  · rw [nb c hc] at h; cases h
  · rw [e] at h; omega
theorem one_heavy {ms : List Cm} (nb : ∀ c ∈ ms.map Cm.cl, c.bad = false) (many : 24 < (partsL ms ms.length).length) : OneS (ms.map Cm.cl) [] false 4 := by
  have e : ((ms.map Cm.cl).filter Cl.part).length = (partsL ms ms.length).length := by
    have := parts_filter ms ms.length (Nat.le_refl _)
    rw [List.take_length] at this
    rw [← this, List.length_map]
  refine ⟨fun ⟨c, hc, h⟩ => ?_, fun _ _ => ⟨rfl, rfl, rfl⟩, fun _ h => ?_⟩
  · rw [nb c hc] at h; cases h
  · rw [e] at h; omega
theorem one_bad {ms : List Cm} {c : Cl} (hc : c ∈ ms.map Cm.cl) (hb : c.bad = true) : OneS (ms.map Cm.cl) [] false 1 := by
  refine ⟨fun _ => ⟨rfl, rfl, rfl⟩, fun h _ => ?_, fun h _ => ?_⟩
  · rw [h c hc] at hb; cases hb
  · rw [h c hc] at hb; cases hb
end Go.Proofs.Ytodmakcklacbfaa
