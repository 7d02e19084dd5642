import Derived.Test.YtginpoofeliimaaLSpec
namespace Go.Proofs.Ytginpoofeliimaa

/-- No Get tells it. -/
def Mt (cs : List Cl) (x : List Nat) : Prop := ∀ (i : Nat) (c : Cl), cs[i]? = some c → c.part = true → c.put = false → c.told ≠ some x
/-- One list of calls out of another one: what is left out is a Get, or a Put that no Get tells. -/
structure Sub (cs cs' : List Cl) (g : Nat → Option Nat) (x : List Nat) : Prop where
  inj : ∀ i j k, g i = some k → g j = some k → i = j
  fwd : ∀ i c k, cs[i]? = some c → c.part = true → g i = some k → ∃ c', cs'[k]? = some c' ∧ c'.part = true ∧ c'.put = c.put ∧ c'.val = c.val ∧ c'.told = c.told
  out : ∀ i c, cs[i]? = some c → c.part = true → g i = none → c.put = false ∨ (c.val = x ∧ Mt cs x)
  back : ∀ k a, cs'[k]? = some a → a.must = true → ∃ i c, g i = some k ∧ cs[i]? = some c ∧ c.must = true
  ahd : ∀ i c k c' j a l a', g i = some k → cs[i]? = some c → cs'[k]? = some c' → g j = some l → cs[j]? = some a → cs'[l]? = some a' → a.must = true → a'.ahead c' = true → a.ahead c = true
theorem must_part {c : Cl} (h : c.must = true) : c.part = true := by
  unfold Cl.must at h
  rw [Bool.and_eq_true] at h
  exact h.1
theorem ahead_must {a c : Cl} (h : a.ahead c = true) : a.must = true := by
  unfold Cl.ahead at h
  rw [Bool.and_eq_true, Bool.and_eq_true] at h
  exact h.1.1
theorem Sub.run {cs cs' : List Cl} {g : Nat → Option Nat} {x : List Nat} (s : Sub cs cs' g x) : ∀ (o p : List Nat) (V V' : Option (List Nat)), XRun cs o p V → (V = V' ∨ (V = some x ∧ Mt cs x)) → XRun cs' (o.filterMap g) (p.filterMap g) V'
  | [], p, V, V', h, _ => by
    intro k a hk hm
    obtain ⟨i, c, hg, hc, hcm⟩ := s.back k a hk hm
    exact List.mem_filterMap.2 ⟨i, h i c hc hcm, hg⟩
  | i :: o, p, V, V', h, e => by
    obtain ⟨c, m, r⟩ := h
    cases q : g i with
    | none =>
      have ep : (p ++ [i]).filterMap g = p.filterMap g := by simp [q]
      rw [List.filterMap_cons_none q, ← ep]
      refine Sub.run s o _ _ V' r ?_
      unfold Cl.next
      rcases s.out i c m.1 m.2.1 q with z | ⟨z, mt⟩
      · rw [if_neg (by rw [z]; simp)]
        exact e
      · by_cases hp : c.put = true
        · rw [if_pos hp, z]
          exact .inr ⟨rfl, mt⟩
        · rw [if_neg hp]
          exact e
    | some k =>
      have ep : (p ++ [i]).filterMap g = p.filterMap g ++ [k] := by simp [q]
      rw [List.filterMap_cons_some q]
      obtain ⟨c', h1, h2, h3, h4, h5⟩ := s.fwd i c k m.1 m.2.1 q
      have vv : c.put = true ∨ V = V' := by
        rcases e with e | ⟨e, mt⟩
        · exact .inr e
        · by_cases hp : c.put = true
          · exact .inl hp
          · have := m.2.2.2.1.resolve_left hp
            rw [e] at this
            exact absurd this (mt i c m.1 m.2.1 (by simpa using hp))
      refine ⟨c', ⟨h1, h2, fun hk => ?_, ?_, fun j a ha hap hac => ?_⟩, ?_⟩
      · obtain ⟨j, hj, hg⟩ := List.mem_filterMap.1 hk
        rw [s.inj j i k hg q] at hj
        exact m.2.2.1 hj
      · rw [h3, h5]
        rcases vv with v | v
        · exact .inl v
        · rw [← v]
          exact m.2.2.2.1
      · obtain ⟨i', c0, hg, hc0, hm0⟩ := s.back j a ha (ahead_must hac)
        exact List.mem_filterMap.2 ⟨i', m.2.2.2.2 i' c0 hc0 (must_part hm0) (s.ahd i c k c' i' c0 j a q m.1 h1 hg hc0 ha hm0 hac), hg⟩
      · rw [← ep]
        refine Sub.run s o _ _ _ r ?_
        unfold Cl.next
        rw [h3, h4]
        by_cases hp : c.put = true
        · rw [if_pos hp, if_pos hp]
          exact .inl rfl
        · rw [if_neg hp, if_neg hp]
          exact e
/-- Some order explains the calls. -/
def Xpl (cs : List Cl) : Prop := ∃ o, XRun cs o [] none
theorem Sub.xpl {cs cs' : List Cl} {g : Nat → Option Nat} {x : List Nat} (s : Sub cs cs' g x) (h : Xpl cs) : Xpl cs' := by
  obtain ⟨o, r⟩ := h
  exact ⟨_, s.run o [] none none r (.inl rfl)⟩
/-- An open Put that no Get tells, put in at the end. -/
theorem xpl_more {cs : List Cl} {u : Cl} (hu : u.put = true) (ho : u.opn = true) (mt : ∀ c ∈ cs, c.put = false → c.told ≠ some u.val) : Xpl (cs ++ [u]) ↔ Xpl cs := by
  have um : u.must = false := by unfold Cl.must Cl.open_; rw [hu, ho]; simp
  have low : ∀ {i : Nat} {c : Cl}, cs[i]? = some c → (cs ++ [u])[i]? = some c := fun {i c} h => by
    rw [List.getElem?_append_left (List.getElem?_eq_some_iff.1 h).1]
    exact h
  have cut : ∀ {i : Nat} {c : Cl}, (cs ++ [u])[i]? = some c → (i < cs.length ∧ cs[i]? = some c) ∨ (i = cs.length ∧ c = u) := fun {i c} h => by
    rcases Nat.lt_trichotomy i cs.length with z | z | z
    · rw [List.getElem?_append_left z] at h
      exact .inl ⟨z, h⟩
    · subst z
      rw [List.getElem?_append_right (Nat.le_refl _)] at h
      simp at h
      exact .inr ⟨rfl, h.symm⟩
    · rw [List.getElem?_eq_none (by simp; omega)] at h
      cases h
  constructor
  · refine Sub.xpl (g := fun i => if i < cs.length then some i else none) (x := u.val) ⟨fun i j k h1 h2 => ?_, fun i c k h1 h2 h3 => ?_, fun i c h1 h2 h3 => ?_, fun k a h1 h2 => ?_, fun i c k c' j a l a' h1 h2 h3 h4 h5 h6 h7 h8 => ?_⟩
    · split at h1
      · split at h2
        · injection h1 with h1; injection h2 with h2; omega
        · cases h2
      · cases h1
    · split at h3
      · injection h3 with h3
        subst h3
        rcases cut h1 with ⟨_, z⟩ | ⟨z, _⟩
        · exact ⟨c, z, h2, rfl, rfl, rfl⟩
        · omega
      · cases h3
    · split at h3
      · cases h3
      · rcases cut h1 with ⟨z, _⟩ | ⟨_, z⟩
        · omega
        · right
          refine ⟨by rw [z], fun i' c' h4 h5 h6 => ?_⟩
          rcases cut h4 with ⟨_, z'⟩ | ⟨_, z'⟩
          · exact mt c' (List.mem_of_getElem? z') h6
          · rw [z', hu] at h6; cases h6
    · have := (List.getElem?_eq_some_iff.1 h1).1
      exact ⟨k, a, by rw [if_pos this], low h1, h2⟩
    · split at h1
      · split at h4
        · injection h1 with h1; injection h4 with h4
          subst h1; subst h4
          have e1 := low h3
          rw [h2] at e1
          have e2 := low h6
          rw [h5] at e2
          injection e1 with e1; injection e2 with e2
          rw [e1, e2]
          exact h8
        · cases h4
      · cases h1
  · refine Sub.xpl (g := some) (x := u.val) ⟨fun i j k h1 h2 => ?_, fun i c k h1 h2 h3 => ?_, fun i c h1 h2 h3 => ?_, fun k a h1 h2 => ?_, fun i c k c' j a l a' h1 h2 h3 h4 h5 h6 h7 h8 => ?_⟩
    · injection h1 with h1; injection h2 with h2; omega
    · injection h3 with h3
      subst h3
      exact ⟨c, low h1, h2, rfl, rfl, rfl⟩
    · cases h3
    · rcases cut h1 with ⟨_, z⟩ | ⟨_, z⟩
      · exact ⟨k, a, rfl, z, h2⟩
      · rw [z, um] at h2; cases h2
    · injection h1 with h1; injection h4 with h4
      subst h1; subst h4
      have e1 := low h2
      rw [h3] at e1
      have e2 := low h5
      rw [h6] at e2
      injection e1 with e1; injection e2 with e2
      rw [← e1, ← e2]
      exact h8
/-- A Get is left out. -/
theorem xpl_less {cs : List Cl} {i0 : Nat} {c0 : Cl} (h0 : cs[i0]? = some c0) (hp : c0.put = false) (h : Xpl cs) : Xpl (cs.take i0 ++ cs.drop (i0 + 1)) := by
  have hl := (List.getElem?_eq_some_iff.1 h0).1
  have tl : (cs.take i0).length = i0 := by rw [List.length_take]; omega
  have lo : ∀ k, k < i0 → (cs.take i0 ++ cs.drop (i0 + 1))[k]? = cs[k]? := fun k hk => by
    rw [List.getElem?_append_left (by omega), List.getElem?_take, if_pos hk]
  have hi : ∀ k, i0 ≤ k → (cs.take i0 ++ cs.drop (i0 + 1))[k]? = cs[k + 1]? := fun k hk => by
    rw [List.getElem?_append_right (by omega), tl, List.getElem?_drop]
    congr 1
    omega
  have gk : ∀ i k, (if i < i0 then some i else if i = i0 then none else some (i - 1)) = some k → i ≠ i0 ∧ (cs.take i0 ++ cs.drop (i0 + 1))[k]? = cs[i]? ∧ (i < i0 → k = i) ∧ (i0 < i → k + 1 = i) := fun i k h => by
    split at h
    · injection h with h
      subst h
      exact ⟨by omega, lo i (by omega), fun _ => rfl, fun _ => by omega⟩
    · split at h
      · cases h
      · injection h with h
        refine ⟨by omega, ?_, fun _ => by omega, fun _ => by omega⟩
        rw [hi k (by omega)]
        congr 1
        omega
  refine Sub.xpl (g := fun i => if i < i0 then some i else if i = i0 then none else some (i - 1)) (x := []) ⟨fun i j k h1 h2 => ?_, fun i c k h1 h2 h3 => ?_, fun i c h1 h2 h3 => ?_, fun k a h1 h2 => ?_, fun i c k c' j a l a' h1 h2 h3 h4 h5 h6 h7 h8 => ?_⟩ h
  · have a := gk i k h1
    have b := gk j k h2
    rcases Nat.lt_trichotomy i i0 with z | z | z
    · have := a.2.2.1 z
      rcases Nat.lt_trichotomy j i0 with z' | z' | z'
      · have := b.2.2.1 z'; omega
      · exact absurd z' b.1
      · have := b.2.2.2 z'; omega
    · exact absurd z a.1
    · have := a.2.2.2 z
      rcases Nat.lt_trichotomy j i0 with z' | z' | z'
      · have := b.2.2.1 z'; omega
      · exact absurd z' b.1
      · have := b.2.2.2 z'; omega
  · exact ⟨c, by rw [(gk i k h3).2.1]; exact h1, h2, rfl, rfl, rfl⟩
  · split at h3
    · cases h3
    · split at h3
      · rename_i z
        subst z
        rw [h0] at h1
        injection h1 with h1
        rw [← h1]
        exact .inl hp
      · cases h3
  · by_cases z : k < i0
    · rw [lo k z] at h1
      exact ⟨k, a, by rw [if_pos z], h1, h2⟩
    · rw [hi k (by omega)] at h1
      exact ⟨k + 1, a, by rw [if_neg (by omega), if_neg (by omega)]; rfl, h1, h2⟩
  · rw [(gk i k h1).2.1, h2] at h3
    rw [(gk j l h4).2.1, h5] at h6
    injection h3 with h3; injection h6 with h6
    rw [h3, h6]
    exact h8
/-- A call that returned returns later. -/
theorem xpl_late {cs : List Cl} {i0 : Nat} {c0 : Cl} (h0 : cs[i0]? = some c0) {t : Int} (ht : 0 ≤ c0.to) (hle : c0.to ≤ t) (h : Xpl cs) : Xpl (cs.set i0 ⟨c0.put, c0.opn, c0.frm, t, c0.st, c0.val⟩) := by
  have hl := (List.getElem?_eq_some_iff.1 h0).1
  have e1 : (cs.set i0 ⟨c0.put, c0.opn, c0.frm, t, c0.st, c0.val⟩)[i0]? = some ⟨c0.put, c0.opn, c0.frm, t, c0.st, c0.val⟩ := by rw [List.getElem?_set_self hl]
  have e2 : ∀ k, k ≠ i0 → (cs.set i0 ⟨c0.put, c0.opn, c0.frm, t, c0.st, c0.val⟩)[k]? = cs[k]? := fun k hk => List.getElem?_set_ne (Ne.symm hk)
  have pt : (⟨c0.put, c0.opn, c0.frm, t, c0.st, c0.val⟩ : Cl).part = c0.part := by
    unfold Cl.part
    rw [decide_eq_true ht, decide_eq_true (show 0 ≤ t by omega)]
  have ms : (⟨c0.put, c0.opn, c0.frm, t, c0.st, c0.val⟩ : Cl).must = c0.must := by
    unfold Cl.must
    rw [pt]
    rfl
  have al : ∀ (k : Nat) (c' : Cl), (cs.set i0 ⟨c0.put, c0.opn, c0.frm, t, c0.st, c0.val⟩)[k]? = some c' → ∃ c : Cl, cs[k]? = some c ∧ c'.part = c.part ∧ c'.must = c.must ∧ c'.frm = c.frm ∧ (0 ≤ c'.to → 0 ≤ c.to ∧ c.to ≤ c'.to) := fun k c' hk => by
    by_cases z : k = i0
    · subst z
      rw [e1] at hk
      injection hk with hk
      subst hk
      exact ⟨c0, h0, pt, ms, rfl, fun _ => ⟨ht, hle⟩⟩
    · rw [e2 k z] at hk
      exact ⟨c', hk, rfl, rfl, rfl, fun z => ⟨z, Int.le_refl _⟩⟩
  refine Sub.xpl (g := some) (x := []) ⟨fun i j k h1 h2 => ?_, fun i c k h1 h2 h3 => ?_, fun i c h1 h2 h3 => ?_, fun k a h1 h2 => ?_, fun i c k c' j a l a' h1 h2 h3 h4 h5 h6 h7 h8 => ?_⟩ h
  · injection h1 with h1; injection h2 with h2; omega
  · injection h3 with h3
    subst h3
    by_cases z : i = i0
    · subst z
      rw [h0] at h1
      injection h1 with h1
      subst h1
      exact ⟨_, e1, by rw [pt]; exact h2, rfl, rfl, rfl⟩
    · exact ⟨c, by rw [e2 i z]; exact h1, h2, rfl, rfl, rfl⟩
  · cases h3
  · obtain ⟨c, hc, _, q, _⟩ := al k a h1
    exact ⟨k, c, rfl, hc, by rw [← q]; exact h2⟩
  · injection h1 with h1; injection h4 with h4
    subst h1; subst h4
    obtain ⟨c1, x1, _, _, x4, _⟩ := al i c' h3
    obtain ⟨a1, y1, _, _, _, y5⟩ := al j a' h6
    rw [h2] at x1
    rw [h5] at y1
    injection x1 with x1; injection y1 with y1
    subst x1; subst y1
    unfold Cl.ahead at h8 ⊢
    rw [Bool.and_eq_true, Bool.and_eq_true, decide_eq_true_iff, decide_eq_true_iff] at h8 ⊢
    have := y5 h8.1.2
    exact ⟨⟨h7, by omega⟩, by omega⟩
/-- A Get that may never stand. -/
theorem stuck {cs : List Cl} (I : List Nat → Option (List Nat) → Prop) {i0 : Nat} {c0 : Cl} (h0 : cs[i0]? = some c0) (hm : c0.must = true) (no : ∀ p V, I p V → ¬ XMay cs p V i0 c0) (step : ∀ p V i c, I p V → XMay cs p V i c → I (p ++ [i]) (c.next V)) : ∀ (o p : List Nat) (V : Option (List Nat)), I p V → i0 ∉ p → ¬ XRun cs o p V
  | [], p, V, _, hn, h => hn (h i0 c0 h0 hm)
  | i :: o, p, V, hi, hn, h => by
    obtain ⟨c, m, r⟩ := h
    refine stuck I h0 hm no step o _ _ (step p V i c hi m) (fun z => ?_) r
    rcases List.mem_append.1 z with z | z
    · exact hn z
    · have z := List.mem_singleton.1 z
      subst z
      have := m.1
      rw [h0] at this
      injection this with this
      subst this
      exact no p V hi m
/-- A Get that tells what no Put has. -/
theorem wrong0 {cs : List Cl} {i0 : Nat} {c0 : Cl} (h0 : cs[i0]? = some c0) (hm : c0.must = true) (hp : c0.put = false) {x : List Nat} (ht : c0.told = some x) (np : ∀ c ∈ cs, c.put = true → c.val ≠ x) : ¬ Xpl cs := by
  rintro ⟨o, r⟩
  refine stuck (fun _ V => V ≠ some x) h0 hm (fun p V hV m => ?_) (fun p V i c hV m => ?_) o [] none (by simp) (by simp) r
  · have := m.2.2.2.1.resolve_left (by rw [hp]; simp)
    rw [ht] at this
    exact hV this.symm
  · show c.next V ≠ some x
    unfold Cl.next
    by_cases z : c.put = true
    · rw [if_pos z]
      intro e
      injection e with e
      exact np c (List.mem_of_getElem? m.1) z e
    · rw [if_neg z]
      exact hV
/-- A Get that tells nothing behind a Put that returned. -/
theorem wrong1 {cs : List Cl} {i0 i1 : Nat} {c0 c1 : Cl} (h0 : cs[i0]? = some c0) (hm : c0.must = true) (hp : c0.put = false) (ht : c0.told = none) (h1 : cs[i1]? = some c1) (p1 : c1.put = true) (ha : c1.ahead c0 = true) : ¬ Xpl cs := by
  rintro ⟨o, r⟩
  refine stuck (fun p V => i1 ∈ p → V ≠ none) h0 hm (fun p V hV m => ?_) (fun p V i c hV m => ?_) o [] none (by simp) (by simp) r
  · have := m.2.2.2.1.resolve_left (by rw [hp]; simp)
    rw [ht] at this
    exact hV (m.2.2.2.2 i1 c1 h1 (must_part (ahead_must ha)) ha) this.symm
  · show i1 ∈ p ++ [i] → c.next V ≠ none
    intro z
    unfold Cl.next
    by_cases q : c.put = true
    · rw [if_pos q]
      simp
    · rw [if_neg q]
      rcases List.mem_append.1 z with z | z
      · exact hV z
      · have z := List.mem_singleton.1 z
        subst z
        have := m.1
        rw [h1] at this
        injection this with this
        rw [← this] at q
        exact absurd p1 q
/-- A Get that tells an older value behind a Put that returned ahead of it. -/
theorem wrong2 {cs : List Cl} {i0 i1 i2 : Nat} {c0 c1 c2 : Cl} (h0 : cs[i0]? = some c0) (hm : c0.must = true) (hp : c0.put = false) {x : List Nat} (ht : c0.told = some x) (h1 : cs[i1]? = some c1) (h2 : cs[i2]? = some c2) (p2 : c2.put = true) (a1 : c1.ahead c2 = true) (a2 : c2.ahead c0 = true) (np : ∀ (i : Nat) (c : Cl), cs[i]? = some c → c.put = true → i ≠ i1 → c.val ≠ x) : ¬ Xpl cs := by
  rintro ⟨o, r⟩
  refine stuck (fun p V => i2 ∈ p → i1 ∈ p ∧ V ≠ some x) h0 hm (fun p V hV m => ?_) (fun p V i c hV m => ?_) o [] none (by simp) (by simp) r
  · have := m.2.2.2.1.resolve_left (by rw [hp]; simp)
    rw [ht] at this
    exact (hV (m.2.2.2.2 i2 c2 h2 (must_part (ahead_must a2)) a2)).2 this.symm
  · show i2 ∈ p ++ [i] → i1 ∈ p ++ [i] ∧ c.next V ≠ some x
    intro z
    have old : i1 ∈ p ∧ (c.put = false → V ≠ some x) := by
      rcases List.mem_append.1 z with z | z
      · exact ⟨(hV z).1, fun _ => (hV z).2⟩
      · have z := List.mem_singleton.1 z
        subst z
        have e := m.1
        rw [h2] at e
        injection e with e
        subst e
        exact ⟨m.2.2.2.2 i1 c1 h1 (must_part (ahead_must a1)) a1, fun q => by rw [p2] at q; cases q⟩
    refine ⟨List.mem_append_left _ old.1, ?_⟩
    unfold Cl.next
    by_cases q : c.put = true
    · rw [if_pos q]
      intro e
      injection e with e
      exact np i c m.1 q (fun z => by rw [z] at m; exact m.2.2.1 old.1) e
    · rw [if_neg q]
      exact old.2 (by simpa using q)
/-- What One answers of calls that are not bad and few. -/
theorem OneS.xpl {cs : List Cl} {o : List Nat} {ok : Bool} {e : Int} (h : OneS cs o ok e) (nb : ∀ c ∈ cs, c.bad = false) (fl : cs.length ≤ 24) : e = 0 ∧ (ok = true ↔ Xpl cs) ∧ (ok = false → o = []) := by
  have fl' : (cs.filter Cl.part).length ≤ 24 := by
    have := List.length_filter_le Cl.part cs
    omega
  obtain ⟨h1, h2, h3⟩ := h.good nb fl'
  refine ⟨h1, ⟨fun z => ⟨o, (h2 z).1⟩, fun ⟨o', r⟩ => ?_⟩, fun z => (h3 z).1⟩
  cases q : ok
  · exact absurd r ((h3 q).2 o')
  · rfl
end Go.Proofs.Ytginpoofeliimaa
