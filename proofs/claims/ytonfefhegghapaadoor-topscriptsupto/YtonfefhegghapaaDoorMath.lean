import Derived.Lib.AtoiAllCases
import Derived.Lib.ParseIntBTie
import Derived.Lib.ItoaMem
import Derived.Lib.Bytealg
namespace Go.Proofs.YtonfefhegghapaaDoor
open Go.Lib

def Digit (c : UInt8) : Prop := 48 ≤ c.toNat ∧ c.toNat ≤ 57
theorem ofNat_digit (u : Nat) (h : u < 10) : (UInt8.ofNat (48 + u)).toNat = 48 + u := by
  simp [UInt8.toNat_ofNat']
  omega
/-- What digits spell, from acc on. -/
def dv (acc : Nat) (l : List UInt8) : Nat := l.foldl (fun a c => a * 10 + (c.toNat - 48)) acc
theorem dv_append (l m : List UInt8) (acc : Nat) : dv acc (l ++ m) = dv (dv acc l) m := by simp [dv]
theorem dv_ge (l : List UInt8) : ∀ acc, acc ≤ dv acc l := by
  induction l with
  | nil => intro acc; exact Nat.le_refl _
  | cons c r ih => intro acc; exact Nat.le_trans (by omega) (ih (acc * 10 + (c.toNat - 48)))
/-- digits, by fuel. -/
theorem digs (f : Nat) : ∀ u : Nat, u < f → (∀ c ∈ decDigits u, Digit c) ∧ dv 0 (decDigits u) = u ∧ decDigits u ≠ [] := by
  induction f with
  | zero => intro u h; omega
  | succ f ih =>
    intro u hu
    rw [decDigits]
    by_cases h : u < 10
    · rw [dif_pos h]
      refine ⟨fun c hc => ?_, ?_, by simp⟩
      · rw [List.mem_singleton] at hc
        subst hc
        have := ofNat_digit u h
        exact ⟨by omega, by omega⟩
      · have e := ofNat_digit u h
        show 0 * 10 + ((UInt8.ofNat (48 + u)).toNat - 48) = u
        omega
    · rw [dif_neg h]
      obtain ⟨h1, h2, h3⟩ := ih (u / 10) (by omega)
      refine ⟨fun c hc => ?_, ?_, by simp⟩
      · rcases List.mem_append.1 hc with q | q
        · exact h1 c q
        · rw [List.mem_singleton] at q
          subst q
          have := ofNat_digit (u % 10) (by omega)
          exact ⟨by omega, by omega⟩
      · rw [dv_append, h2]
        have e := ofNat_digit (u % 10) (by omega)
        show u / 10 * 10 + ((UInt8.ofNat (48 + u % 10)).toNat - 48) = u
        omega
theorem digs_digit (u : Nat) : ∀ c ∈ decDigits u, Digit c := (digs (u + 1) u (by omega)).1
theorem digs_dv (u : Nat) : dv 0 (decDigits u) = u := (digs (u + 1) u (by omega)).2.1
theorem digs_ne (u : Nat) : decDigits u ≠ [] := (digs (u + 1) u (by omega)).2.2
theorem parse_digits (l : List UInt8) : ∀ acc, (∀ c ∈ l, Digit c) → dv acc l < 9223372036854775808 → parseUint10 acc l = .ok (dv acc l) := by
  induction l with
  | nil => intro acc _ _; rfl
  | cons c r ih =>
    intro acc hd hs
    have hc : 48 ≤ c.toNat ∧ c.toNat ≤ 57 := hd c (by simp)
    have ge := dv_ge r (acc * 10 + (c.toNat - 48))
    have hs' : dv (acc * 10 + (c.toNat - 48)) r < 9223372036854775808 := hs
    unfold parseUint10
    rw [if_pos hc, if_neg (by omega), if_neg (by omega)]
    exact ih _ (fun x hx => hd x (by simp [hx])) hs'
theorem atoi_digs (u : Nat) (h : u < 9223372036854775808) : atoiAll (decDigits u) = .ok (u : Int) := by
  have h1 := digs_digit u
  have h2 := digs_dv u
  have h3 := digs_ne u
  cases e : decDigits u with
  | nil => exact absurd e h3
  | cons c r =>
    rw [e] at h1 h2
    have hc : 48 ≤ c.toNat ∧ c.toNat ≤ 57 := h1 c (by simp)
    have p := parse_digits (c :: r) 0 h1 (by omega)
    rw [h2] at p
    unfold atoiAll
    simp only []
    rw [if_neg (by omega)]
    unfold parseMag
    rw [if_neg (by simp), p]
    simp only []
    rw [if_neg (by omega), if_neg (by omega), if_neg (by omega)]
/-- The part ahead of the first dot, and the part behind it. -/
def left : List UInt8 → List UInt8
  | [] => []
  | c :: r => if c = 46 then [] else c :: left r
def right : List UInt8 → List UInt8
  | [] => []
  | c :: r => if c = 46 then r else right r
theorem left_digits (l r : List UInt8) (h : ∀ c ∈ l, Digit c) : left (l ++ 46 :: r) = l ∧ right (l ++ 46 :: r) = r := by
  induction l with
  | nil => simp [left, right]
  | cons c t ih =>
    have hc := h c (by simp)
    have hn : c ≠ 46 := by
      intro e; subst e
      have : (46 : UInt8).toNat = 46 := rfl
      unfold Digit at hc
      omega
    obtain ⟨i1, i2⟩ := ih (fun x hx => h x (by simp [hx]))
    simp [left, right, hn, i1, i2]
theorem index_dot (l : List UInt8) : (indexByte l 46 = -1 ∧ left l = l ∧ right l = []) ∨ (∃ k : Nat, indexByte l 46 = (k : Int) ∧ k < l.length ∧ left l = l.take k ∧ right l = l.drop (k + 1)) := by
  induction l with
  | nil => exact .inl ⟨rfl, rfl, rfl⟩
  | cons c r ih =>
    by_cases h : c = 46
    · subst h
      exact .inr ⟨0, by simp [indexByte], by simp, by simp [left], by simp [right]⟩
    · rcases ih with ⟨h1, h2, h3⟩ | ⟨k, h1, h2, h3, h4⟩
      · exact .inl ⟨by simp [indexByte, h, h1], by simp [left, h, h2], by simp [right, h, h3]⟩
      · refine .inr ⟨k + 1, ?_, by simp; omega, by simp [left, h, h3], by simp [right, h, h4]⟩
        unfold indexByte
        rw [if_neg (by simpa using h), h1, if_neg (by simp)]
        omega
end Go.Proofs.YtonfefhegghapaaDoor
