import Derived.Test.YtgfglbbfoadiaaaRows
namespace Go.Proofs.Ytgfglbbfoadiaaa

namespace Pk
/-- A number's bytes, k of them and one at the most. -/
def formF : Nat → Nat → List Nat
  | 0, n => [n]
  | k + 1, n => if n < 128 then [n] else (n % 128 + 128) :: formF k (n / 128)
/-- A number's bytes. -/
def form (n : Nat) : List Nat := formF n n
theorem formF_eq : ∀ (k n j : Nat), n ≤ k → n ≤ j → formF k n = formF j n
  | 0, n, 0, _, _ => rfl
  | 0, n, j + 1, h, _ => by rw [formF, formF, if_pos (by omega)]
  | k + 1, n, 0, _, h => by rw [formF, formF, if_pos (by omega)]
  | k + 1, n, j + 1, h1, h2 => by
    rw [formF, formF]
    by_cases h : n < 128
    · rw [if_pos h, if_pos h]
    · rw [if_neg h, if_neg h, formF_eq k (n / 128) j (by omega) (by omega)]
theorem form_small (n : Nat) (h : n < 128) : form n = [n] := by
  unfold form
  rw [formF_eq n n (n + 1) (Nat.le_refl _) (by omega), formF, if_pos h]
theorem form_big (n : Nat) (h : 128 ≤ n) : form n = (n % 128 + 128) :: form (n / 128) := by
  unfold form
  rw [formF_eq n n (n + 1) (Nat.le_refl _) (by omega), formF, if_neg (by omega), formF_eq n (n / 128) (n / 128) (by omega) (Nat.le_refl _)]
theorem form_pos (n : Nat) : 0 < (form n).length := by
  by_cases h : n < 128
  · rw [form_small n h]; simp
  · rw [form_big n (by omega)]; simp
theorem form_bytes (n : Nat) : ∀ c ∈ form n, c < 256 := by
  induction n using Nat.strongRecOn with
  | ind n ih =>
    intro c hc
    by_cases h : n < 128
    · rw [form_small n h] at hc; simp at hc; omega
    · rw [form_big n (by omega)] at hc
      rcases List.mem_cons.1 hc with e | e
      · omega
      · exact ih (n / 128) (by omega) c e
theorem form_lt (n : Nat) : n < 128 ^ (form n).length := by
  induction n using Nat.strongRecOn with
  | ind n ih =>
    by_cases h : n < 128
    · rw [form_small n h]; simpa using h
    · rw [form_big n (by omega), List.length_cons, Nat.pow_succ]
      have := ih (n / 128) (by omega)
      omega
theorem form_ge (n : Nat) (h1 : (form n).length ≠ 1) : 128 ^ ((form n).length - 1) ≤ n := by
  induction n using Nat.strongRecOn with
  | ind n ih =>
    by_cases h : n < 128
    · rw [form_small n h] at h1; simp at h1
    · rw [form_big n (by omega), List.length_cons, Nat.add_sub_cancel]
      by_cases h2 : (form (n / 128)).length = 1
      · rw [h2]; omega
      · have := ih (n / 128) (by omega) h2
        have hp := form_pos (n / 128)
        obtain ⟨k, hk⟩ : ∃ k, (form (n / 128)).length = k + 1 := ⟨(form (n / 128)).length - 1, by omega⟩
        rw [hk] at this ⊢
        rw [Nat.add_sub_cancel] at this
        rw [Nat.pow_succ]
        omega
theorem form_le (n k : Nat) (h : n < 128 ^ k) (hk : 0 < k) : (form n).length ≤ k := by
  by_cases h1 : (form n).length = 1
  · omega
  · have := form_ge n h1
    have l := (Nat.pow_lt_pow_iff_right (a := 128) (by omega)).1 (Nat.lt_of_le_of_lt this h)
    omega
theorem form_le9 (n : Nat) (h : n < 9223372036854775808) : (form n).length ≤ 9 := form_le n 9 (by omega) (by omega)
theorem form_mono (a b : Nat) (h : a ≤ b) : (form a).length ≤ (form b).length :=
  form_le a _ (Nat.lt_of_le_of_lt h (form_lt b)) (form_pos b)

/-- A number's bits. -/
def len (n : Nat) : Nat := if n = 0 then 0 else n.log2 + 1
theorem len_lt (n : Nat) : n < 2 ^ len n := by
  unfold len
  split
  · subst n; decide
  · exact Nat.lt_log2_self
theorem len_ge (n : Nat) (h : len n ≠ 0) : 2 ^ (len n - 1) ≤ n := by
  unfold len at h ⊢
  split at h
  · simp at h
  · rename_i h0
    rw [if_neg h0, Nat.add_sub_cancel]
    exact Nat.log2_self_le h0
theorem len_of (n k : Nat) (h1 : n < 2 ^ k) (h2 : k = 0 ∨ 2 ^ (k - 1) ≤ n) : len n = k := by
  have a := len_lt n
  have p : (1 : Nat) < 2 := by omega
  by_cases h : len n = 0
  · rw [h] at a ⊢
    rcases h2 with h2 | h2
    · exact h2.symm
    · have := Nat.pow_pos (a := 2) (n := k - 1) (by omega)
      omega
  · have b := len_ge n h
    have c := (Nat.pow_lt_pow_iff_right (a := 2) p).1 (Nat.lt_of_le_of_lt b h1)
    rcases h2 with h2 | h2
    · omega
    · have d := (Nat.pow_lt_pow_iff_right (a := 2) p).1 (Nat.lt_of_le_of_lt h2 a)
      omega
/-- Bits behind a shift. -/
theorem len_shift (n s : Nat) (h : 0 < n / 2 ^ s) : len n = s + len (n / 2 ^ s) := by
  have p : 0 < 2 ^ s := Nat.pow_pos (by omega)
  have a := len_lt (n / 2 ^ s)
  have z : len (n / 2 ^ s) ≠ 0 := fun e => by rw [e, Nat.pow_zero] at a; omega
  have b := len_ge _ z
  refine len_of n _ ?_ (.inr ?_)
  · rw [Nat.pow_add]
    exact (Nat.div_lt_iff_lt_mul p).1 a |> fun q => by rw [Nat.mul_comm]; exact q
  · rw [show s + len (n / 2 ^ s) - 1 = s + (len (n / 2 ^ s) - 1) by omega, Nat.pow_add]
    have := (Nat.le_div_iff_mul_le p).1 b
    rw [Nat.mul_comm]; exact this
theorem size_len (n : Nat) : (max (len n) 1 + 7 - 1) / 7 = (form n).length := by
  have a := form_lt n
  have b := len_lt n
  have p : (1 : Nat) < 2 := by omega
  have q : ∀ k, 128 ^ k = 2 ^ (7 * k) := fun k => by rw [Nat.pow_mul]
  have f := form_pos n
  have u : len n ≤ 7 * (form n).length := by
    by_cases h : len n = 0
    · omega
    · have := (Nat.pow_lt_pow_iff_right (a := 2) p).1 (Nat.lt_of_le_of_lt (len_ge n h) (q _ ▸ a))
      omega
  by_cases h1 : (form n).length = 1
  · omega
  · have c := form_ge n h1
    rw [q] at c
    have := (Nat.pow_lt_pow_iff_right (a := 2) p).1 (Nat.lt_of_le_of_lt c b)
    omega
end Pk
end Go.Proofs.Ytgfglbbfoadiaaa
