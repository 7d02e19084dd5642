import Derived.Test.YtojfnehdanhgiaaTurn
namespace Go.Proofs.Ytojfnehdanhgiaa
open Go.RowKit

theorem flip_bit (l : List Nat) (p j t : Nat) : ((flip l p).getD j 0).testBit t = ((l.getD j 0).testBit t ^^ decide (j < l.length ∧ t < 8 ∧ p = 8 * j + t)) := by
  unfold flip
  split
  · rename_i h
    by_cases hj : p / 8 = j
    · subst hj
      rw [List.getD_eq_getElem?_getD, List.getElem?_set_self h, Option.getD_some, Nat.testBit_xor, Nat.testBit_two_pow]
      congr 1
      apply decide_eq_decide.2
      omega
    · rw [List.getD_eq_getElem?_getD, List.getElem?_set_ne hj, ← List.getD_eq_getElem?_getD]
      rw [decide_eq_false (by omega)]
      simp
  · rw [decide_eq_false (by omega)]
    simp
/-- Which bits a pattern turns. -/
def hitB (n b p k j t : Nat) : Bool := decide (j < n ∧ t < 8 ∧ b ≤ 8 * j + t ∧ 8 * j + t < b + k) && p.testBit (8 * j + t - b)
theorem turnN_bit (b p : Nat) (l : List Nat) (j t : Nat) : ∀ k, ((turnN b p l k).getD j 0).testBit t = ((l.getD j 0).testBit t ^^ hitB l.length b p k j t)
  | 0 => by
    unfold turnN hitB
    rw [decide_eq_false (by omega)]
    simp
  | k + 1 => by
    unfold turnN
    have ih := turnN_bit b p l j t k
    by_cases e : b + k = 8 * j + t
    · have h1 : 8 * j + t - b = k := by omega
      have h2 : hitB l.length b p k j t = false := by unfold hitB; rw [decide_eq_false (by omega)]; rfl
      rw [h2] at ih
      by_cases hp : p.testBit k = true
      · rw [if_pos hp, flip_bit, ih, turnN_length]
        unfold hitB
        rw [h1, hp, Bool.and_true, Bool.xor_false]
        congr 1
        apply decide_eq_decide.2
        omega
      · rw [if_neg hp, ih]
        unfold hitB
        rw [h1, Bool.eq_false_iff.2 hp, Bool.and_false]
    · have h2 : hitB l.length b p (k + 1) j t = hitB l.length b p k j t := by
        unfold hitB
        congr 1
        apply decide_eq_decide.2
        omega
      rw [h2, ← ih]
      split
      · rw [flip_bit, decide_eq_false (by omega)]
        simp
      · rfl
theorem turned_bit (b p : Nat) (l : List Nat) (j t : Nat) : ((turned b p l).getD j 0).testBit t = ((l.getD j 0).testBit t ^^ hitB l.length b p 32 j t) := turnN_bit b p l j t 32
theorem turned_length (b p : Nat) (l : List Nat) : (turned b p l).length = l.length := turnN_length b p l 32
theorem turned_bytes (b p : Nat) (l : List Nat) (h : ∀ c ∈ l, c < 256) : ∀ c ∈ turned b p l, c < 256 := turnN_bytes b p l h 32
theorem list_of_bits {l m : List Nat} (hl : l.length = m.length) (h : ∀ j t, (l.getD j 0).testBit t = (m.getD j 0).testBit t) : l = m := by
  apply List.ext_getElem hl
  intro i h1 h2
  have := Nat.eq_of_testBit_eq (h i)
  simpa [List.getD_eq_getElem?_getD, h1, h2] using this
theorem turned_back (b p : Nat) (l : List Nat) : turned b p (turned b p l) = l :=
  list_of_bits (by rw [turned_length, turned_length]) fun j t => by
    rw [turned_bit, turned_bit, turned_length, Bool.xor_assoc, Bool.xor_self, Bool.xor_false]
theorem turned_mix (b p q : Nat) (l : List Nat) : turned b q (turned b p l) = turned b p (turned b q (turned b p (turned b p l))) :=
  list_of_bits (by simp only [turned_length]) fun j t => by
    simp only [turned_bit, turned_length]
    cases (l.getD j 0).testBit t <;> cases hitB l.length b p 32 j t <;> cases hitB l.length b q 32 j t <;> rfl
/-- The xor of a byte with what became of it, bit by bit. -/
theorem xor_bit (b p : Nat) (l : List Nat) (j t : Nat) : (((turned b p l).getD j 0) ^^^ (l.getD j 0)) / 2 ^ t % 2 = if hitB l.length b p 32 j t = true then 1 else 0 := by
  have e : (((turned b p l).getD j 0) ^^^ (l.getD j 0)).testBit t = hitB l.length b p 32 j t := by
    rw [Nat.testBit_xor, turned_bit]
    cases (l.getD j 0).testBit t <;> cases hitB l.length b p 32 j t <;> rfl
  rw [Nat.testBit_eq_decide_div_mod_eq] at e
  split
  · rename_i h
    rw [h] at e
    exact of_decide_eq_true e
  · rename_i h
    rw [Bool.eq_false_iff.2 h] at e
    have := of_decide_eq_false e
    omega
end Go.Proofs.Ytojfnehdanhgiaa
