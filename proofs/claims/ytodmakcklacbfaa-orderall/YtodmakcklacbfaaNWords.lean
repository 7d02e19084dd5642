import Derived.Test.YtodmakcklacbfaaNCmp
namespace Go.Proofs.Ytodmakcklacbfaa
open Go.RowKit 

/-- The calls of a list, as the search sees them. -/
def fdOf (ms : List Cm) : Fd := ⟨ms.length, fun i => ((ms[i]?).map fun m => m.put).getD false, fun i => ((ms[i]?).map fun m => m.put && m.opn).getD false, vOf ms, fun i => ((ms[i]?).map fun m => m.frm).getD 0, fun i => ((ms[i]?).map fun m => m.to).getD 0⟩
theorem fdOf_ok (ms : List Cm) : (fdOf ms).Ok := by
  intro i h
  unfold fdOf at h ⊢
  show ((ms[i]?).map fun m => m.put).getD false = true
  have h : ((ms[i]?).map fun m => m.put && m.opn).getD false = true := h
  cases q : ms[i]? with
  | none => rw [q] at h; cases h
  | some m =>
    rw [q] at h
    have h : (m.put && m.opn) = true := h
    rw [Bool.and_eq_true] at h
    exact h.1
theorem fdOf_ahd {ms : List Cm} {i j : Nat} {a b : Cm} (hi : ms[i]? = some a) (hj : ms[j]? = some b) : (fdOf ms).ahd i j = a.ahd b := by
  unfold Fd.ahd fdOf Cm.ahd
  simp only [hi, hj]
  rfl
theorem fdOf_alike {ms : List Cm} {i j : Nat} {a b : Cm} (hi : ms[i]? = some a) (hj : ms[j]? = some b) : (fdOf ms).alikeB i j = ((a.put != b.put) && decide (vOf ms i = vOf ms j)) := by
  unfold Fd.alikeB fdOf
  simp only [hi, hj]
  rfl
theorem wrd_congr {p q : Nat → Bool} {n : Nat} (h : ∀ j, j < n → p j = q j) : wrd p n = wrd q n := by
  refine Nat.eq_of_testBit_eq fun j => ?_
  rw [wrd_bit, wrd_bit]
  by_cases hj : j < n
  · rw [h j hj]
  · rw [decide_eq_false hj]; rfl
theorem wrd_add {p q : Nat → Bool} {n i : Nat} (hi : i < n) (h : ∀ j, j < n → q j = (p j || decide (j = i))) : wrd q n = add (wrd p n) i := by
  refine Nat.eq_of_testBit_eq fun j => ?_
  rw [add_mem, wrd_bit, wrd_bit]
  by_cases hj : j < n
  · rw [h j hj, decide_eq_true hj]
    simp only [Bool.true_and]
    congr 1
    rw [decide_eq_decide]
    exact ⟨fun z => z.symm, fun z => z.symm⟩
  · have : ¬ i = j := by omega
    rw [decide_eq_false hj, decide_eq_false this]
    rfl
def doneB (i j p q : Nat) : Bool := decide (p < i ∨ p = i ∧ q < j)
/-- The words on their way. -/
def wA (f : Fd) (i j q : Nat) : Nat := if q < f.n then wrd (fun p => doneB i j p q && f.ahd p q) f.n else 0
def wB (f : Fd) (i j p : Nat) : Nat := if p < f.n then wrd (fun q => doneB i j p q && f.ahd p q) f.n else 0
def wL (f : Fd) (i j p : Nat) : Nat := if p < f.n then wrd (fun q => doneB i j p q && f.alikeB p q) f.n else 0
theorem done_next (i j p q : Nat) : doneB i (j + 1) p q = (doneB i j p q || decide (p = i ∧ q = j)) := by
  unfold doneB
  by_cases h1 : p < i <;> by_cases h2 : p = i <;> by_cases h3 : q < j <;> by_cases h4 : q = j <;> simp [h1, h2, h3, h4] <;> omega
theorem done_not (i j : Nat) : doneB i j i j = false := by unfold doneB; simp
theorem done_row {i n p q : Nat} (h : q < n) : doneB i n p q = doneB (i + 1) 0 p q := by
  unfold doneB
  rw [decide_eq_decide]
  omega
theorem wA_step {f : Fd} {i j : Nat} (hi : i < f.n) (hj : j < f.n) : (if f.ahd i j = true then put1 (wA f i j) j (add (wA f i j j) i) else wA f i j) = wA f i (j + 1) := by
  funext q
  unfold put1 wA
  by_cases hq : q < f.n
  · by_cases ah : f.ahd i j = true
    · rw [if_pos ah]
      by_cases e : q = j
      · subst e
        show (if q = q then add (if q < f.n then wrd _ f.n else 0) i else _) = _
        rw [if_pos rfl, if_pos hq, if_pos hq]
        refine (wrd_add hi (fun p hp => ?_)).symm
        rw [done_next]
        by_cases ep : p = i
        · subst ep
          rw [done_not, ah]
          simp
        · simp [ep]
      · show (if q = j then _ else if q < f.n then wrd _ f.n else 0) = _
        rw [if_neg e, if_pos hq, if_pos hq]
        refine wrd_congr (fun p hp => ?_)
        rw [done_next]
        simp [e]
    · rw [if_neg ah]
      show (if q < f.n then wrd _ f.n else 0) = _
      rw [if_pos hq, if_pos hq]
      refine wrd_congr (fun p hp => ?_)
      rw [done_next]
      by_cases ep : p = i ∧ q = j
      · have ah : f.ahd i j = false := by simpa using ah
        rw [ep.1, ep.2, ah]
        simp
      · rw [decide_eq_false ep, Bool.or_false]
  · have e : ¬ q = j := by omega
    split
    · show (if q = j then _ else if q < f.n then wrd _ f.n else 0) = _
      rw [if_neg e, if_neg hq]
    · show (if q < f.n then wrd _ f.n else 0) = _
      rw [if_neg hq]
theorem wB_step {f : Fd} {i j : Nat} (hi : i < f.n) (hj : j < f.n) : (if f.ahd i j = true then put1 (wB f i j) i (add (wB f i j i) j) else wB f i j) = wB f i (j + 1) := by
  funext p
  unfold put1 wB
  by_cases hp : p < f.n
  · by_cases ah : f.ahd i j = true
    · rw [if_pos ah]
      by_cases e : p = i
      · subst e
        show (if p = p then add (if p < f.n then wrd _ f.n else 0) j else _) = _
        rw [if_pos rfl, if_pos hp, if_pos hp]
        refine (wrd_add hj (fun q hq => ?_)).symm
        rw [done_next]
        by_cases ep : q = j
        · subst ep
          rw [done_not, ah]
          simp
        · simp [ep]
      · show (if p = i then _ else if p < f.n then wrd _ f.n else 0) = _
        rw [if_neg e, if_pos hp, if_pos hp]
        refine wrd_congr (fun q hq => ?_)
        rw [done_next]
        simp [e]
    · rw [if_neg ah]
      show (if p < f.n then wrd _ f.n else 0) = _
      rw [if_pos hp, if_pos hp]
      refine wrd_congr (fun q hq => ?_)
      rw [done_next]
      by_cases ep : p = i ∧ q = j
      · have ah : f.ahd i j = false := by simpa using ah
        rw [ep.1, ep.2, ah]
        simp
      · rw [decide_eq_false ep, Bool.or_false]
  · have e : ¬ p = i := by omega
    split
    · show (if p = i then _ else if p < f.n then wrd _ f.n else 0) = _
      rw [if_neg e, if_neg hp]
    · show (if p < f.n then wrd _ f.n else 0) = _
      rw [if_neg hp]
theorem wL_step {f : Fd} {i j : Nat} (hi : i < f.n) (hj : j < f.n) : (if f.alikeB i j = true then put1 (wL f i j) i (add (wL f i j i) j) else wL f i j) = wL f i (j + 1) := by
  funext p
  unfold put1 wL
  by_cases hp : p < f.n
  · by_cases ah : f.alikeB i j = true
    · rw [if_pos ah]
      by_cases e : p = i
      · subst e
        show (if p = p then add (if p < f.n then wrd _ f.n else 0) j else _) = _
        rw [if_pos rfl, if_pos hp, if_pos hp]
        refine (wrd_add hj (fun q hq => ?_)).symm
        rw [done_next]
        by_cases ep : q = j
        · subst ep
          rw [done_not, ah]
          simp
        · simp [ep]
      · show (if p = i then _ else if p < f.n then wrd _ f.n else 0) = _
        rw [if_neg e, if_pos hp, if_pos hp]
        refine wrd_congr (fun q hq => ?_)
        rw [done_next]
        simp [e]
    · rw [if_neg ah]
      show (if p < f.n then wrd _ f.n else 0) = _
      rw [if_pos hp, if_pos hp]
      refine wrd_congr (fun q hq => ?_)
      rw [done_next]
      by_cases ep : p = i ∧ q = j
      · have ah : f.alikeB i j = false := by simpa using ah
        rw [ep.1, ep.2, ah]
        simp
      · rw [decide_eq_false ep, Bool.or_false]
  · have e : ¬ p = i := by omega
    split
    · show (if p = i then _ else if p < f.n then wrd _ f.n else 0) = _
      rw [if_neg e, if_neg hp]
    · show (if p < f.n then wrd _ f.n else 0) = _
      rw [if_neg hp]
theorem w_row (f : Fd) (i : Nat) : wA f i f.n = wA f (i + 1) 0 ∧ wB f i f.n = wB f (i + 1) 0 ∧ wL f i f.n = wL f (i + 1) 0 := by
  refine ⟨?_, ?_, ?_⟩
  · funext q
    unfold wA
    by_cases hq : q < f.n
    · rw [if_pos hq, if_pos hq]
      exact wrd_congr (fun p _ => by rw [done_row hq])
    · rw [if_neg hq, if_neg hq]
  · funext p
    unfold wB
    by_cases hp : p < f.n
    · rw [if_pos hp, if_pos hp]
      exact wrd_congr (fun q hq => by rw [done_row hq])
    · rw [if_neg hp, if_neg hp]
  · funext p
    unfold wL
    by_cases hp : p < f.n
    · rw [if_pos hp, if_pos hp]
      exact wrd_congr (fun q hq => by rw [done_row hq])
    · rw [if_neg hp, if_neg hp]
theorem wrd_none (p : Nat → Bool) (n : Nat) (h : ∀ j, p j = false) : wrd p n = 0 := by
  refine Nat.eq_of_testBit_eq fun j => ?_
  rw [wrd_bit, h j, Nat.zero_testBit, Bool.and_false]
theorem done_0 (p q : Nat) : doneB 0 0 p q = false := by unfold doneB; simp
theorem w_zero (f : Fd) : wA f 0 0 = (fun _ => 0) ∧ wB f 0 0 = (fun _ => 0) ∧ wL f 0 0 = (fun _ => 0) := by
  refine ⟨?_, ?_, ?_⟩
  · funext q
    unfold wA
    split
    · exact wrd_none _ _ (fun j => by rw [done_0]; rfl)
    · rfl
  · funext q
    unfold wB
    split
    · exact wrd_none _ _ (fun j => by rw [done_0]; rfl)
    · rfl
  · funext q
    unfold wL
    split
    · exact wrd_none _ _ (fun j => by rw [done_0]; rfl)
    · rfl
theorem w_end (f : Fd) {k : Nat} (hk : k < f.n) : wA f f.n 0 k = f.aheadW k ∧ wB f f.n 0 k = f.behindW k ∧ wL f f.n 0 k = f.alikeW k := by
  have d : ∀ p q, p < f.n → doneB f.n 0 p q = true := fun p q hp => by unfold doneB; rw [decide_eq_true_iff]; exact .inl hp
  refine ⟨?_, ?_, ?_⟩
  · unfold wA Fd.aheadW
    rw [if_pos hk]
    exact wrd_congr (fun p hp => by rw [d p k hp]; rfl)
  · unfold wB Fd.behindW
    rw [if_pos hk]
    exact wrd_congr (fun q _ => by rw [d k q hk]; rfl)
  · unfold wL Fd.alikeW
    rw [if_pos hk]
    exact wrd_congr (fun q _ => by rw [d k q hk]; rfl)
/-- The values on their way. -/
def vP (ms : List Cm) (i j : Nat) : Int := if j < i then vOf ms j else 0
theorem vP_step (ms : List Cm) (i : Nat) : put1 (vP ms i) i (vOf ms i) = vP ms (i + 1) := by
  funext j
  unfold put1 vP
  by_cases e : j = i
  · rw [if_pos e, if_pos (by omega), e]
  · rw [if_neg e]
    by_cases h : j < i
    · rw [if_pos h, if_pos (by omega)]
    · rw [if_neg h, if_neg (by omega)]
/-- The calls that must be in, on their way. -/
def mP (f : Fd) (i : Nat) : Nat := wrd (fun j => !f.opn j) i
theorem mP_step (f : Fd) (i : Nat) : mP f (i + 1) = if f.opn i = true then mP f i else add (mP f i) i := by
  unfold mP
  conv => lhs; unfold wrd
  cases f.opn i <;> rfl
theorem NF.done {w : World} {fb : Nat} {cp : Option Addr} {cc vb ab bb lb mb : Nat} {ms : List Cm} (h : NF w fb ms.length cp cc vb ab bb lb mb (vP ms ms.length) (mP (fdOf ms) ms.length) (wA (fdOf ms) ms.length 0) (wB (fdOf ms) ms.length 0) (wL (fdOf ms) ms.length 0)) (cr : CRd w cp ms.length cc ms) : SF w fb (fdOf ms) ms cp cc vb ab bb lb mb := by
  have en : (fdOf ms).n = ms.length := rfl
  refine ⟨h.blk, cr, h.n24, fun i m hm => ?_, fun i m hm => ?_, fun i hi => ?_, fun i hi => ?_, fun i hi => ?_, fun i hi => ?_⟩
  · show ((ms[i]?).map fun m => m.put).getD false = m.put
    rw [hm]
    rfl
  · show ((ms[i]?).map fun m => m.put && m.opn).getD false = (m.put && m.opn)
    rw [hm]
    rfl
  · have := cell_blk h.hv i (vrow_get _ hi)
    rw [this]
    unfold i64v vP
    rw [if_pos (show i < ms.length from hi)]
    rfl
  · have := cell_blk h.ha i (vrow_get _ hi)
    rw [this]
    unfold u32v
    rw [← (w_end (fdOf ms) hi).1]
    rfl
  · have := cell_blk h.hb i (vrow_get _ hi)
    rw [this]
    unfold u32v
    rw [← (w_end (fdOf ms) hi).2.1]
    rfl
  · have := cell_blk h.hl i (vrow_get _ hi)
    rw [this]
    unfold u32v
    rw [← (w_end (fdOf ms) hi).2.2]
    rfl
end Go.Proofs.Ytodmakcklacbfaa
