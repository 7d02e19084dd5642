import Derived.Test.YtginpoofeliimabLSpec
namespace Go.Proofs.Ytginpoofeliimab

def mayX (cs : List Cl) (p : List Nat) (V : Option (List Nat)) (i : Nat) (c : Cl) : Bool := c.part && !p.contains i && (c.put || c.told == V) && (List.range cs.length).all fun j => match cs[j]? with
  | some a => !(a.part && a.ahead c) || p.contains j
  | none => true
def wholeX (cs : List Cl) (p : List Nat) : Bool := (List.range cs.length).all fun j => match cs[j]? with
  | some a => !a.must || p.contains j
  | none => true
theorem mayX_of {cs : List Cl} {p : List Nat} {V : Option (List Nat)} {i : Nat} {c : Cl} : XMay cs p V i c ↔ cs[i]? = some c ∧ mayX cs p V i c = true := by
  unfold XMay mayX
  constructor
  · rintro ⟨h1, h2, h3, h4, h5⟩
    refine ⟨h1, ?_⟩
    rw [Bool.and_eq_true, Bool.and_eq_true, Bool.and_eq_true]
    refine ⟨⟨⟨h2, by simpa using h3⟩, by simpa using h4⟩, ?_⟩
    rw [List.all_eq_true]
    intro j hj
    split
    · rename_i a ha
      cases q : (a.part && a.ahead c)
      · rfl
      · rw [Bool.and_eq_true] at q
        simpa using h5 j a ha q.1 q.2
    · rfl
  · rintro ⟨h1, h⟩
    rw [Bool.and_eq_true, Bool.and_eq_true, Bool.and_eq_true] at h
    obtain ⟨⟨⟨h2, h3⟩, h4⟩, h5⟩ := h
    refine ⟨h1, h2, by simpa using h3, by simpa using h4, fun j a ha hp haa => ?_⟩
    have hl := (List.getElem?_eq_some_iff.1 ha).1
    have := List.all_eq_true.1 h5 j (List.mem_range.2 hl)
    rw [ha] at this
    simp only [hp, haa] at this
    simpa using this
theorem wholeX_of {cs : List Cl} {p : List Nat} : XWhole cs p ↔ wholeX cs p = true := by
  unfold XWhole wholeX
  rw [List.all_eq_true]
  constructor
  · intro h j _
    split
    · rename_i a ha
      cases q : a.must
      · rfl
      · simpa using h j a ha q
    · rfl
  · intro h j a ha hm
    have hl := (List.getElem?_eq_some_iff.1 ha).1
    have := h j (List.mem_range.2 hl)
    rw [ha] at this
    simp only [hm] at this
    simpa using this
def runX (cs : List Cl) : List Nat → List Nat → Option (List Nat) → Bool
  | [], p, _ => wholeX cs p
  | i :: o, p, V => match cs[i]? with
    | some c => mayX cs p V i c && runX cs o (p ++ [i]) (c.next V)
    | none => false
theorem runX_of {cs : List Cl} : ∀ {o p : List Nat} {V : Option (List Nat)}, XRun cs o p V ↔ runX cs o p V = true
  | [], _, _ => wholeX_of
  | i :: o, p, V => by
    unfold XRun runX
    constructor
    · rintro ⟨c, m, r⟩
      rw [m.1]
      show (_ && _) = true
      rw [Bool.and_eq_true]
      exact ⟨(mayX_of.1 m).2, runX_of.1 r⟩
    · intro h
      split at h
      · rename_i c hc
        rw [Bool.and_eq_true] at h
        exact ⟨c, mayX_of.2 ⟨hc, h.1⟩, runX_of.2 h.2⟩
      · cases h
/-- All orders that explain are such. -/
def allX (cs : List Cl) (chk : List Nat → Bool) : Nat → List Nat → Option (List Nat) → Bool
  | 0, p, V => (!wholeX cs p || chk p) && (List.range cs.length).all fun i => match cs[i]? with
    | some c => !mayX cs p V i c
    | none => true
  | n + 1, p, V => (!wholeX cs p || chk p) && (List.range cs.length).all fun i => match cs[i]? with
    | some c => !mayX cs p V i c || allX cs chk n (p ++ [i]) (c.next V)
    | none => true
theorem allX_of {cs : List Cl} {chk : List Nat → Bool} : ∀ {o : List Nat} {n : Nat} {p : List Nat} {V : Option (List Nat)}, allX cs chk n p V = true → XRun cs o p V → chk (p ++ o) = true
  | [], n, p, V, h, r => by
    have : ((!wholeX cs p || chk p) && true) = true := by
      cases n <;> (unfold allX at h; rw [Bool.and_eq_true] at h; rw [Bool.and_true]; exact h.1)
    have w := wholeX_of.1 r
    rw [w] at this
    rw [List.append_nil]
    simpa using this
  | i :: o, n, p, V, h, r => by
    obtain ⟨c, m, r⟩ := r
    have hl := (List.getElem?_eq_some_iff.1 m.1).1
    cases n with
    | zero =>
      unfold allX at h
      rw [Bool.and_eq_true] at h
      have := List.all_eq_true.1 h.2 i (List.mem_range.2 hl)
      rw [m.1] at this
      simp only [(mayX_of.1 m).2] at this
      cases this
    | succ n =>
      unfold allX at h
      rw [Bool.and_eq_true] at h
      have := List.all_eq_true.1 h.2 i (List.mem_range.2 hl)
      rw [m.1] at this
      simp only [(mayX_of.1 m).2] at this
      simp at this
      have := allX_of this r
      rw [List.append_assoc] at this
      exact this
def clA : List Cl := [⟨true, false, 0, 1, 0, [1]⟩, ⟨false, false, 2, 3, 0, [1]⟩]
theorem takenA {o : List Nat} {ok : Bool} {e : Int} (h : OneS clA o ok e) : o = [0, 1] ∧ ok = true ∧ e = 0 := by
  obtain ⟨h1, h2, h3⟩ := h.good (by intro c hc; simp [clA] at hc; rcases hc with rfl | rfl <;> decide) (by decide)
  have r : XRun clA [0, 1] [] none := runX_of.2 (by decide)
  cases ok
  · exact absurd r ((h3 rfl).2 _)
  · have := allX_of (cs := clA) (chk := fun p => p == [0, 1]) (n := 3) (p := []) (V := none) (by decide) (h2 rfl).1
    exact ⟨by simpa using this, rfl, h1⟩
end Go.Proofs.Ytginpoofeliimab
