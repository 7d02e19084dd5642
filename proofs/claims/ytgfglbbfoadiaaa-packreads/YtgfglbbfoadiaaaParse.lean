import Derived.Test.YtgfglbbfoadiaaaMath
namespace Go.Proofs.Ytgfglbbfoadiaaa

namespace Pk
/-- The number at the front: itself, how many bytes it has, what is wrong with it. At most k bytes may follow, i are done, whose number is acc. -/
def go (most : Int) : Nat → Nat → Nat → List Nat → Nat × Nat × Int
  | 0, _, _, _ => (0, 0, 31)
  | _ + 1, _, _, [] => (0, 0, 30)
  | k + 1, i, acc, c :: t =>
    if 128 ≤ c then go most k (i + 1) (acc + c % 128 * 128 ^ i) t
    else if 0 < i ∧ c = 0 then (0, 0, 31)
    else if most < ((acc + c * 128 ^ i : Nat) : Int) then (0, 0, 33)
    else (acc + c * 128 ^ i, i + 1, 0)
def parse (most : Int) (l : List Nat) : Nat × Nat × Int := go most 9 0 0 l
theorem parse_nil (most : Int) : parse most [] = (0, 0, 30) := rfl

/-- What was taken without an error is a number's form. -/
theorem go_ok (most : Int) : ∀ (k i acc : Nat) (l : List Nat) (n s : Nat), (∀ c ∈ l, c < 256) → go most k i acc l = (n, s, 0) →
    ∃ j m, s = i + j ∧ 0 < j ∧ j ≤ k ∧ j ≤ l.length ∧ l.take j = form m ∧ n = acc + m * 128 ^ i ∧ (0 < i → m ≠ 0) ∧ (n : Int) ≤ most
  | 0, _, _, _, _, _, _, h => by simp [go] at h
  | _ + 1, _, _, [], _, _, _, h => by simp [go] at h
  | k + 1, i, acc, c :: t, n, s, hb, h => by
    rw [go] at h
    split at h
    · rename_i hc
      obtain ⟨j, m, rfl, h0, hk, hl, ht, hn, hz, hm⟩ := go_ok most k (i + 1) _ t n s (fun d hd => hb d (List.mem_cons_of_mem _ hd)) h
      have hc2 : c < 256 := hb c (by simp)
      have z := hz (by omega)
      refine ⟨j + 1, c % 128 + 128 * m, by omega, by omega, by omega, by simp; omega, ?_, ?_, fun _ => by omega, hm⟩
      · rw [List.take_succ_cons, ht, form_big (c % 128 + 128 * m) (by omega), show (c % 128 + 128 * m) % 128 + 128 = c by omega, show (c % 128 + 128 * m) / 128 = m by omega]
      · rw [hn, Nat.add_mul, Nat.add_assoc, Nat.pow_succ]
        congr 2
        rw [Nat.mul_comm (128 ^ i) 128, ← Nat.mul_assoc, Nat.mul_comm m 128]
    · split at h
      · simp at h
      · split at h
        · simp at h
        · rename_i hc hz hm
          simp at h
          obtain ⟨rfl, rfl⟩ := h
          exact ⟨1, c, rfl, by omega, by omega, by simp, by rw [form_small c (by omega)]; rfl, rfl, fun h0 q => hz ⟨h0, q⟩, by omega⟩
theorem go_err (most : Int) : ∀ (k i acc : Nat) (l : List Nat) (n s : Nat) (e : Int), go most k i acc l = (n, s, e) → e ≠ 0 → n = 0 ∧ s = 0 ∧ (e = 30 ∨ e = 31 ∨ e = 33)
  | 0, _, _, _, _, _, _, h, _ => by simp [go] at h; omega
  | _ + 1, _, _, [], _, _, _, h, _ => by simp [go] at h; omega
  | k + 1, i, acc, c :: t, n, s, e, h, he => by
    rw [go] at h
    split at h
    · exact go_err most k _ _ t n s e h he
    · split at h
      · simp at h; omega
      · split at h
        · simp at h; omega
        · simp at h; omega
theorem parse_ok {most : Int} {l : List Nat} {n s : Nat} (hb : ∀ c ∈ l, c < 256) (h : parse most l = (n, s, 0)) :
    s = (form n).length ∧ s ≤ l.length ∧ l.take s = form n ∧ (n : Int) ≤ most ∧ n < 9223372036854775808 ∧ 0 < s ∧ s ≤ 9 := by
  obtain ⟨j, m, rfl, h0, hk, hl, ht, hn, _, hm⟩ := go_ok most 9 0 0 l n s hb h
  have e : n = m := by rw [hn]; simp
  subst e
  have el : (form n).length = j := by rw [← ht, List.length_take]; omega
  rw [Nat.zero_add]
  refine ⟨el.symm, hl, ht, hm, ?_, h0, hk⟩
  have := form_lt n
  rw [el] at this
  exact Nat.lt_of_lt_of_le this (Nat.pow_le_pow_right (n := 128) (by omega) hk)
theorem parse_err {most : Int} {l : List Nat} {n s : Nat} {e : Int} (h : parse most l = (n, s, e)) (he : e ≠ 0) : n = 0 ∧ s = 0 ∧ (e = 30 ∨ e = 31 ∨ e = 33) := go_err most 9 0 0 l n s e h he

/-- What was written is read. -/
theorem go_form (most : Int) (t : List Nat) : ∀ (n : Nat) (k i acc : Nat), (form n).length ≤ k → (0 < i → n ≠ 0) → ((acc + n * 128 ^ i : Nat) : Int) ≤ most →
    go most k i acc (form n ++ t) = (acc + n * 128 ^ i, i + (form n).length, 0) := by
  intro n
  induction n using Nat.strongRecOn with
  | ind n ih =>
    intro k i acc hk hz hm
    by_cases h : n < 128
    · rw [form_small n h] at hk ⊢
      obtain ⟨k, rfl⟩ : ∃ q, k = q + 1 := ⟨k - 1, by simp at hk; omega⟩
      rw [List.singleton_append, go, if_neg (by omega), if_neg (fun q => hz q.1 q.2), if_neg (by omega)]
      rfl
    · rw [form_big n (by omega)] at hk ⊢
      obtain ⟨k, rfl⟩ : ∃ q, k = q + 1 := ⟨k - 1, by simp at hk; omega⟩
      rw [List.cons_append, go, if_pos (by omega)]
      have e : acc + (n % 128 + 128) % 128 * 128 ^ i + n / 128 * 128 ^ (i + 1) = acc + n * 128 ^ i := by
        rw [show (n % 128 + 128) % 128 = n % 128 by omega, Nat.pow_succ, Nat.mul_comm (128 ^ i) 128, ← Nat.mul_assoc, Nat.add_assoc, ← Nat.add_mul, show n % 128 + n / 128 * 128 = n by omega]
      rw [ih (n / 128) (by omega) k (i + 1) _ (by simp at hk; omega) (fun _ => by omega) (by rw [e]; exact hm), e]
      simp
      omega
theorem parse_form (most : Int) (n : Nat) (t : List Nat) (hn : n < 9223372036854775808) (hm : (n : Int) ≤ most) : parse most (form n ++ t) = (n, (form n).length, 0) := by
  have := go_form most t n 9 0 0 (form_le9 n hn) (fun h => absurd h (by omega)) (by simpa using hm)
  simpa [parse] using this
/-- Too few bytes. -/
theorem go_short (most : Int) : ∀ (l : List Nat) (k i acc : Nat), (∀ c ∈ l, 128 ≤ c) → l.length < k → go most k i acc l = (0, 0, 30)
  | [], 0, _, _, _, h => by simp at h
  | [], _ + 1, _, _, _, _ => rfl
  | c :: t, 0, _, _, _, h => by simp at h
  | c :: t, k + 1, i, acc, hb, h => by
    rw [go, if_pos (hb c (by simp))]
    exact go_short most t k _ _ (fun d hd => hb d (List.mem_cons_of_mem _ hd)) (by simp at h; omega)
theorem form_high (n : Nat) : ∀ c ∈ (form n).dropLast, 128 ≤ c := by
  induction n using Nat.strongRecOn with
  | ind n ih =>
    by_cases h : n < 128
    · rw [form_small n h]; simp
    · rw [form_big n (by omega), List.dropLast_cons_of_ne_nil (fun q => by have := form_pos (n / 128); rw [q] at this; simp at this)]
      intro c hc
      rcases List.mem_cons.1 hc with e | e
      · omega
      · exact ih (n / 128) (by omega) c e
theorem parse_cut (most : Int) (n : Nat) (hn : n < 9223372036854775808) : parse most (form n).dropLast = (0, 0, 30) :=
  go_short most _ 9 0 0 (form_high n) (by have := form_le9 n hn; have := form_pos n; rw [List.length_dropLast]; omega)
end Pk
end Go.Proofs.Ytgfglbbfoadiaaa
