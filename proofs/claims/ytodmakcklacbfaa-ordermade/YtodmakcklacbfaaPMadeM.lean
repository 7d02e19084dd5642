import Derived.Test.YtodmakcklacbfaaPTimeM
namespace Go.Proofs.Ytodmakcklacbfaa
open Go.RowKit Go.Shelf Go.Lib Go.Sort

/-- Is it a Put? -/
def Md.isP (v : Md) (k : Nat) : Bool := decide (0 < v.who.getD k 0)
/-- The last Put ahead of a call. -/
def Md.lp (v : Md) : Nat → Option Nat
  | 0 => .none
  | k + 1 => if v.isP k = true then some k else v.lp k
theorem Md.lp_put (v : Md) {k : Nat} (h : v.isP k = true) : v.lp (k + 1) = some k := by
  show (if v.isP k = true then some k else v.lp k) = _
  rw [if_pos h]
theorem Md.lp_get (v : Md) {k : Nat} (h : v.isP k = false) : v.lp (k + 1) = v.lp k := by
  show (if v.isP k = true then some k else v.lp k) = _
  rw [if_neg (by rw [h]; decide)]
theorem Md.last_lp (v : Md) : ∀ k, v.last k = (v.lp k).map (v.put 0)
  | 0 => rfl
  | k + 1 => by
    show (if 0 < v.who.getD k 0 then some (v.put 0 k) else v.last k) = _
    by_cases h : v.isP k = true
    · rw [if_pos (by unfold Md.isP at h; simpa using h), v.lp_put h]
      rfl
    · rw [if_neg (by unfold Md.isP at h; simpa using h), v.lp_get (by simpa using h)]
      exact v.last_lp k
theorem Md.lp_lt (v : Md) : ∀ {k p : Nat}, v.lp k = some p → p < k ∧ v.isP p = true
  | 0, _, h => by cases h
  | k + 1, p, h => by
    by_cases q : v.isP k = true
    · rw [v.lp_put q] at h
      have h := Option.some.inj h
      subst h
      exact ⟨by omega, q⟩
    · rw [v.lp_get (by simpa using q)] at h
      obtain ⟨h1, h2⟩ := v.lp_lt h
      exact ⟨by omega, h2⟩
/-- The group of a call: 0 where nothing was put yet, else one more than the last Put's number. -/
def Md.gr (v : Md) (k : Nat) : Nat := match v.lp (k + 1) with | some p => p + 1 | .none => 0
theorem Md.gr_put (v : Md) {k : Nat} (h : v.isP k = true) : v.gr k = k + 1 := by unfold Md.gr; rw [v.lp_put h]
theorem Md.gr_get (v : Md) {k : Nat} (h : v.isP k = false) : v.gr k = match v.lp k with | some p => p + 1 | .none => 0 := by unfold Md.gr; rw [v.lp_get h]
theorem Md.lp_mono (v : Md) {i : Nat} : ∀ {j : Nat}, i ≤ j → (match v.lp i with | some p => p + 1 | .none => 0) ≤ (match v.lp j with | some p => p + 1 | .none => 0)
  | 0, h => by
    have : i = 0 := by omega
    subst this
    exact Nat.le_refl _
  | j + 1, h => by
    by_cases e : i = j + 1
    · subst e; exact Nat.le_refl _
    · refine Nat.le_trans (v.lp_mono (j := j) (by omega)) ?_
      by_cases q : v.isP j = true
      · rw [v.lp_put q]
        cases r : v.lp j with
        | none => exact Nat.zero_le _
        | some p =>
          have := (v.lp_lt r).1
          show p + 1 ≤ j + 1
          omega
      · rw [v.lp_get (by simpa using q)]
        exact Nat.le_refl _
theorem Md.gr_mono (v : Md) {i j : Nat} (h : i ≤ j) : v.gr i ≤ v.gr j := by
  unfold Md.gr
  exact v.lp_mono (by omega)
theorem Md.gr_le (v : Md) (k : Nat) : v.gr k ≤ k + 1 := by
  unfold Md.gr
  cases r : v.lp (k + 1) with
  | none => exact Nat.zero_le _
  | some p =>
    have := (v.lp_lt r).1
    show p + 1 ≤ k + 1
    omega
theorem Md.one_put (v : Md) {k : Nat} (h : v.isP k = true) : v.one k = v.put v.opn.length k := by
  unfold Md.one
  rw [if_pos (by unfold Md.isP at h; simpa using h)]
theorem Md.one_get (v : Md) {k p : Nat} (h : v.isP k = false) (hl : v.lp k = some p) : v.one k = v.get k (v.put 0 p) := by
  unfold Md.one
  rw [if_neg (by unfold Md.isP at h; simpa using h), v.last_lp, hl]
  rfl
theorem Md.one_none (v : Md) {k : Nat} (h : v.isP k = false) (hl : v.lp k = .none) : v.one k = v.none k := by
  unfold Md.one
  rw [if_neg (by unfold Md.isP at h; simpa using h), v.last_lp, hl]
  rfl
theorem Md.one_isP (v : Md) (k : Nat) : (v.one k).put = v.isP k := by
  cases h : v.isP k
  · cases hl : v.lp k with
    | none => rw [v.one_none h hl]; rfl
    | some p => rw [v.one_get h hl]; rfl
  · rw [v.one_put h]; rfl
/-- A Put without a tag that it tells is open. -/
theorem Md.sil_op (v : Md) (k i : Nat) (h : v.sil k i = true) : v.op k i = true := by
  unfold Md.sil at h
  unfold Md.op
  obtain ⟨x, h1, h2⟩ := List.any_eq_true.1 h
  exact List.any_eq_true.2 ⟨x, h1, by rw [h2, Bool.or_true]⟩
/-- Is it silent? -/
def Md.si (v : Md) (k : Nat) : Bool := v.isP k && v.sil v.opn.length k
theorem Md.tells (v : Md) (k : Nat) : (v.one k).tells = ((v.isP k && !v.si k) || (!v.isP k && (v.lp k).isSome)) := by
  unfold Cm.tells Md.si
  have b := v.to_b k
  cases h : v.isP k
  · cases hl : v.lp k with
    | none =>
      rw [v.one_none h hl]
      show (if false = true then _ else (false || (!false && decide (0 ≤ (v.none k).to) && decide ((76 : Int) = 0)))) = _
      simp
    | some p =>
      rw [v.one_get h hl]
      have e : (v.get k (v.put 0 p)).to = v.to0 k := rfl
      have e2 : decide (0 ≤ v.to0 k) = true := by rw [decide_eq_true]; omega
      show (if false = true then _ else (false || (!false && decide (0 ≤ (v.get k (v.put 0 p)).to) && decide ((0 : Int) = 0)))) = _
      rw [e, e2]
      rfl
  · rw [v.one_put h]
    have e1 : (v.put v.opn.length k).opn = v.op v.opn.length k := rfl
    rw [e1]
    cases q : v.sil v.opn.length k
    · have e2 : kIsZero (v.put v.opn.length k).tx (v.put v.opn.length k).ty = false := by
        unfold Md.put kIsZero
        rw [q]
        simp
        omega
      rw [e2]
      cases v.op v.opn.length k <;> rfl
    · have e2 : kIsZero (v.put v.opn.length k).tx (v.put v.opn.length k).ty = true := by
        unfold Md.put kIsZero
        rw [q]
        rfl
      rw [e2, v.sil_op _ _ q]
      rfl
theorem Md.absB (v : Md) (k : Nat) : absB (v.one k) = (!v.isP k && !(v.lp k).isSome) := by
  unfold Go.Proofs.Ytodmakcklacbfaa.absB
  have b := v.to_b k
  cases h : v.isP k
  · cases hl : v.lp k with
    | none =>
      rw [v.one_none h hl]
      have e : (v.none k).to = v.to0 k := rfl
      have e2 : decide (0 ≤ v.to0 k) = true := by rw [decide_eq_true]; omega
      rw [e, e2]
      rfl
    | some p =>
      rw [v.one_get h hl]
      show (_ && decide ((0 : Int) = 76)) = _
      simp
  · rw [v.one_put h]
    rfl
/-- The tag of what tells one. -/
theorem Md.tag (v : Md) (k : Nat) (h : (v.one k).tells = true) : (v.one k).tx = (v.gr k : Int) ∧ (v.one k).ty = 99 + (v.gr k : Int) ∧ 0 < v.gr k := by
  rw [v.tells] at h
  cases q : v.isP k
  · cases hl : v.lp k with
    | none => rw [q, hl] at h; cases h
    | some p =>
      rw [v.one_get q hl, v.gr_get q, hl]
      refine ⟨?_, ?_, ?_⟩
      · show (p : Int) + 1 = ((p + 1 : Nat) : Int)
        omega
      · show 100 + (p : Int) = 99 + ((p + 1 : Nat) : Int)
        omega
      · show 0 < p + 1
        omega
  · rw [q] at h
    have hs : v.sil v.opn.length k = false := by
      unfold Md.si at h
      rw [q] at h
      simpa using h
    rw [v.one_put q, v.gr_put q]
    unfold Md.put
    rw [hs]
    refine ⟨?_, ?_, by omega⟩
    · show (k : Int) + 1 = ((k + 1 : Nat) : Int)
      omega
    · show 100 + (k : Int) = 99 + ((k + 1 : Nat) : Int)
      omega
theorem Md.abs_gr (v : Md) {k : Nat} (h1 : v.isP k = false) (h2 : v.lp k = .none) : v.gr k = 0 := by rw [v.gr_get h1, h2]
/-- One call stands ahead of another. -/
def Md.Rel (v : Md) (j i : Nat) : Prop := v.gr j < v.gr i ∨ (v.gr j = v.gr i ∧ ((v.isP j = true ∧ v.isP i = false) ∨ (v.isP j = false ∧ v.isP i = false ∧ (v.fr j < v.fr i ∨ (v.fr j = v.fr i ∧ j < i)))))
theorem Md.Rel.ne {v : Md} {j i : Nat} (h : v.Rel j i) : j ≠ i := by
  intro e
  subst e
  rcases h with h | ⟨_, ⟨h1, h2⟩ | ⟨_, _, h | h⟩⟩
  · omega
  · rw [h1] at h2; cases h2
  · omega
  · omega
theorem Md.Rel.ahd {v : Md} {j i : Nat} (h : v.Rel j i) : (v.one i).cl.ahead (v.one j).cl = false := by
  cases q : (v.one i).cl.ahead (v.one j).cl
  · rfl
  · have lt := v.ahd_lt q
    have mo := v.gr_mono (Nat.le_of_lt lt)
    obtain ⟨q1, q2⟩ := (v.ahd i j).1 q
    have b1 := v.fr_b i
    have b2 := v.to_b i
    rw [(v.one_f j).frm] at q2
    have q3 : v.to0 i < v.fr j := by
      rcases (v.one_f i).kind with ⟨z, _⟩ | ⟨_, z, _⟩
      · rw [q1] at z; cases z
      · rw [z] at q2; exact q2
    rcases h with h | ⟨h0, ⟨h1, h2⟩ | ⟨h1, h2, h3⟩⟩
    · omega
    · have e1 := v.gr_put h1
      have e2 := v.gr_le i
      omega
    · rcases h3 with h3 | h3 <;> omega
end Go.Proofs.Ytodmakcklacbfaa
