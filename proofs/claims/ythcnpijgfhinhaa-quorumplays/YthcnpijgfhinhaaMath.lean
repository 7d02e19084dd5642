import Derived.Lib.BitFns
namespace Go.Proofs.Ythcnpijgfhinhaa.Q

/-- The number whose digits, in base 2^d, are f 0, f 1 and so on. -/
def J (d : Nat) : Nat → (Nat → Nat) → Nat
  | 0, _ => 0
  | n + 1, f => f 0 + 2 ^ d * J d n (fun i => f (i + 1))
def S : Nat → (Nat → Nat) → Nat
  | 0, _ => 0
  | n + 1, f => f 0 + S n (fun i => f (i + 1))

theorem J_congr (d n : Nat) (f g : Nat → Nat) (h : ∀ i, i < n → f i = g i) : J d n f = J d n g := by
  induction n generalizing f g with
  | zero => rfl
  | succ n ih =>
    have e := ih (fun i => f (i + 1)) (fun i => g (i + 1)) (fun i hi => h _ (by omega))
    simp only [J]
    rw [e, h 0 (by omega)]
theorem J_lt (d n : Nat) (f : Nat → Nat) (h : ∀ i, f i < 2 ^ d) : J d n f < 2 ^ (d * n) := by
  induction n generalizing f with
  | zero => simp [J]
  | succ n ih =>
    have a := ih (fun i => f (i + 1)) (fun i => h _)
    have b := h 0
    simp only [J]
    have e : 2 ^ (d * (n + 1)) = 2 ^ d * 2 ^ (d * n) := by rw [← Nat.pow_add]; congr 1; rw [Nat.mul_succ]; omega
    rw [e]
    have : 2 ^ d * (J d n (fun i => f (i + 1)) + 1) ≤ 2 ^ d * 2 ^ (d * n) := Nat.mul_le_mul_left _ a
    rw [Nat.mul_add] at this
    omega
theorem J_add (d n : Nat) (f g : Nat → Nat) : J d n f + J d n g = J d n (fun i => f i + g i) := by
  induction n generalizing f g with
  | zero => rfl
  | succ n ih =>
    simp only [J]
    rw [← ih (fun i => f (i + 1)) (fun i => g (i + 1)), Nat.mul_add]
    omega
theorem J_snoc (d n : Nat) (f : Nat → Nat) (h : f n = 0) : J d (n + 1) f = J d n f := by
  induction n generalizing f with
  | zero => simp [J, h]
  | succ n ih =>
    have e := ih (fun i => f (i + 1)) h
    rw [J, e]; rfl
theorem J_shift (d n : Nat) (f : Nat → Nat) (h : ∀ i, f i < 2 ^ d) (h0 : f (n + 1) = 0) : J d (n + 1) f >>> d = J d (n + 1) (fun i => f (i + 1)) := by
  rw [J_snoc d n (fun i => f (i + 1)) h0, J, Nat.shiftRight_eq_div_pow, Nat.add_mul_div_left _ _ (Nat.two_pow_pos d), Nat.div_eq_of_lt (h 0)]
  omega
theorem and_split (k a b c e : Nat) (ha : a < 2 ^ k) (hc : c < 2 ^ k) : (a + 2 ^ k * b) &&& (c + 2 ^ k * e) = (a &&& c) + 2 ^ k * (b &&& e) := by
  have hac : a &&& c < 2 ^ k := Nat.and_lt_two_pow a hc
  refine Nat.eq_of_testBit_eq fun i => ?_
  rw [Nat.testBit_and, Nat.add_comm a, Nat.add_comm c, Nat.add_comm (a &&& c), Nat.testBit_two_pow_mul_add _ ha, Nat.testBit_two_pow_mul_add _ hc, Nat.testBit_two_pow_mul_add _ hac]
  split
  · rw [Nat.testBit_and]
  · rw [Nat.testBit_and]
/-- Every second digit. -/
theorem and_low (d n : Nat) (f : Nat → Nat) (h : ∀ i, f i < 2 ^ d) : J d (2 * n) f &&& J (2 * d) n (fun _ => 2 ^ d - 1) = J (2 * d) n (fun i => f (2 * i)) := by
  induction n generalizing f with
  | zero => simp [J]
  | succ n ih =>
    have e := ih (fun i => f (i + 2)) (fun i => h _)
    have p := Nat.two_pow_pos d
    have e2 : 2 ^ (2 * d) = 2 ^ d * 2 ^ d := by rw [← Nat.pow_add]; congr 1; omega
    have s : J d (2 * (n + 1)) f = (f 0 + 2 ^ d * f 1) + 2 ^ (2 * d) * J d (2 * n) (fun i => f (i + 2)) := by
      show f 0 + 2 ^ d * (f 1 + 2 ^ d * J d (2 * n) (fun i => f (i + 2))) = _
      rw [e2, Nat.mul_add, Nat.mul_assoc]; omega
    have b : f 0 + 2 ^ d * f 1 < 2 ^ (2 * d) := by
      have h1 := h 0
      have h2 : 2 ^ d * (f 1 + 1) ≤ 2 ^ d * 2 ^ d := Nat.mul_le_mul_left _ (h 1)
      rw [Nat.mul_add] at h2
      rw [e2]; omega
    have c : 2 ^ d - 1 < 2 ^ (2 * d) := by
      have : 2 ^ d * 1 ≤ 2 ^ d * 2 ^ d := Nat.mul_le_mul_left _ p
      rw [e2]; omega
    rw [s]
    show _ &&& ((2 ^ d - 1) + 2 ^ (2 * d) * J (2 * d) n (fun _ => 2 ^ d - 1)) = f (2 * 0) + 2 ^ (2 * d) * J (2 * d) n (fun i => f (2 * (i + 1)))
    rw [and_split _ _ _ _ _ b c, e, Nat.and_two_pow_sub_one_eq_mod, Nat.add_mul_mod_self_left, Nat.mod_eq_of_lt (h 0)]
    rfl
/-- Neighbours added up. -/
theorem fold (d n : Nat) (f : Nat → Nat) (h : ∀ i, f i < 2 ^ d) (h0 : f (2 * (n + 1)) = 0) :
    ((J d (2 * (n + 1)) f >>> d) &&& J (2 * d) (n + 1) (fun _ => 2 ^ d - 1)) + (J d (2 * (n + 1)) f &&& J (2 * d) (n + 1) (fun _ => 2 ^ d - 1)) = J (2 * d) (n + 1) (fun i => f (2 * i) + f (2 * i + 1)) := by
  have e := J_shift d (2 * n + 1) f h h0
  have e' : J d (2 * (n + 1)) f >>> d = J d (2 * (n + 1)) (fun i => f (i + 1)) := e
  rw [e', and_low d (n + 1) _ (fun i => h _), and_low d (n + 1) _ h, J_add]
  exact J_congr _ _ _ _ fun i _ => Nat.add_comm _ _
theorem fold2 (d n : Nat) (f : Nat → Nat) (h : ∀ i, f i < 2 ^ d) (h2 : ∀ i, f i + f (i + 1) < 2 ^ d) (h0 : f (2 * (n + 1)) = 0) :
    ((J d (2 * (n + 1)) f >>> d) + J d (2 * (n + 1)) f) &&& J (2 * d) (n + 1) (fun _ => 2 ^ d - 1) = J (2 * d) (n + 1) (fun i => f (2 * i) + f (2 * i + 1)) := by
  have e := J_shift d (2 * n + 1) f h h0
  have e' : J d (2 * (n + 1)) f >>> d = J d (2 * (n + 1)) (fun i => f (i + 1)) := e
  rw [e', J_add, and_low d (n + 1) _ (fun i => by have := h2 i; omega)]
  exact J_congr _ _ _ _ fun i _ => Nat.add_comm _ _
theorem S_pairs (n : Nat) (f : Nat → Nat) : S n (fun i => f (2 * i) + f (2 * i + 1)) = S (2 * n) f := by
  induction n generalizing f with
  | zero => rfl
  | succ n ih =>
    show f 0 + f 1 + S n (fun i => f (2 * (i + 1)) + f (2 * (i + 1) + 1)) = f 0 + (f 1 + S (2 * n) (fun i => f (i + 1 + 1)))
    rw [← ih (fun i => f (i + 1 + 1))]
    have : (fun i => f (2 * (i + 1)) + f (2 * (i + 1) + 1)) = (fun i => f (2 * i + 1 + 1) + f (2 * i + 1 + 1 + 1)) := rfl
    rw [this]; omega

/-- What OnesCount64 makes of a word, step by step. -/
def ones1 (x : Nat) : Nat := ((x >>> 1) &&& 6148914691236517205) + (x &&& 6148914691236517205)
def ones2 (x : Nat) : Nat := ((x >>> 2) &&& 3689348814741910323) + (x &&& 3689348814741910323)
def ones3 (x : Nat) : Nat := ((x >>> 4) + x) &&& 1085102592571150095
theorem ones (b : Nat → Nat) (h : ∀ i, b i ≤ 1) (h0 : ∀ i, 64 ≤ i → b i = 0) :
    ones1 (J 1 64 b) < 18446744073709551616 ∧ ones2 (ones1 (J 1 64 b)) < 18446744073709551616 ∧ (ones2 (ones1 (J 1 64 b)) >>> 4) + ones2 (ones1 (J 1 64 b)) < 18446744073709551616 ∧
    ∃ c0 c1 c2 c3 c4 c5 c6 c7 : Nat, c0 ≤ 8 ∧ c1 ≤ 8 ∧ c2 ≤ 8 ∧ c3 ≤ 8 ∧ c4 ≤ 8 ∧ c5 ≤ 8 ∧ c6 ≤ 8 ∧ c7 ≤ 8 ∧ c0 + c1 + c2 + c3 + c4 + c5 + c6 + c7 = S 64 b ∧
      ones3 (ones2 (ones1 (J 1 64 b))) = c0 + 256 * (c1 + 256 * (c2 + 256 * (c3 + 256 * (c4 + 256 * (c5 + 256 * (c6 + 256 * c7)))))) := by
  have e1 : ones1 (J 1 64 b) = J 2 32 (fun i => b (2 * i) + b (2 * i + 1)) := fold 1 31 b (fun i => by have := h i; omega) (h0 _ (by omega))
  have e2 : ones2 (ones1 (J 1 64 b)) = J 4 16 (fun i => (b (2 * (2 * i)) + b (2 * (2 * i) + 1)) + (b (2 * (2 * i + 1)) + b (2 * (2 * i + 1) + 1))) := by
    rw [e1]
    exact fold 2 15 (fun i => b (2 * i) + b (2 * i + 1)) (fun i => by have := h (2 * i); have := h (2 * i + 1); omega) (by rw [h0 _ (by omega), h0 _ (by omega)])
  obtain ⟨c, hc⟩ : ∃ c : Nat → Nat, c = fun i => (b (2 * (2 * i)) + b (2 * (2 * i) + 1)) + (b (2 * (2 * i + 1)) + b (2 * (2 * i + 1) + 1)) := ⟨_, rfl⟩
  have c4 : ∀ i, c i ≤ 4 := fun i => by
    rw [hc]
    have := h (2 * (2 * i)); have := h (2 * (2 * i) + 1); have := h (2 * (2 * i + 1)); have := h (2 * (2 * i + 1) + 1)
    simp only; omega
  have c16 : ∀ i, 16 ≤ i → c i = 0 := fun i hi => by
    rw [hc]; simp only
    rw [h0 _ (by omega), h0 _ (by omega), h0 _ (by omega), h0 _ (by omega)]
  have sc : S 16 c = S 64 b := by
    rw [hc]
    exact (S_pairs 16 (fun i => b (2 * i) + b (2 * i + 1))).trans (S_pairs 32 b)
  rw [← hc] at e2
  have e3 : ones3 (J 4 16 c) = J 8 8 (fun i => c (2 * i) + c (2 * i + 1)) := fold2 4 7 c (fun i => by have := c4 i; omega) (fun i => by have := c4 i; have := c4 (i + 1); omega) (c16 _ (by omega))
  refine ⟨?_, ?_, ?_, ?_⟩
  · rw [e1]; exact J_lt 2 32 _ (fun i => by have := h (2 * i); have := h (2 * i + 1); omega)
  · rw [e2]; exact J_lt 4 16 _ (fun i => by have := c4 i; omega)
  · rw [e2]
    have : J 4 16 c >>> 4 = J 4 16 (fun i => c (i + 1)) := J_shift 4 15 c (fun i => by have := c4 i; omega) (c16 _ (by omega))
    rw [this, J_add]
    exact J_lt 4 16 _ (fun i => by have := c4 i; have := c4 (i + 1); omega)
  · rw [e2, e3]
    have sp := S_pairs 8 c
    rw [sc] at sp
    refine ⟨c (2 * 0) + c (2 * 0 + 1), c (2 * 1) + c (2 * 1 + 1), c (2 * 2) + c (2 * 2 + 1), c (2 * 3) + c (2 * 3 + 1), c (2 * 4) + c (2 * 4 + 1), c (2 * 5) + c (2 * 5 + 1), c (2 * 6) + c (2 * 6 + 1), c (2 * 7) + c (2 * 7 + 1), ?_, ?_, ?_, ?_, ?_, ?_, ?_, ?_, ?_, ?_⟩
    · have := c4 (2 * 0); have := c4 (2 * 0 + 1); omega
    · have := c4 (2 * 1); have := c4 (2 * 1 + 1); omega
    · have := c4 (2 * 2); have := c4 (2 * 2 + 1); omega
    · have := c4 (2 * 3); have := c4 (2 * 3 + 1); omega
    · have := c4 (2 * 4); have := c4 (2 * 4 + 1); omega
    · have := c4 (2 * 5); have := c4 (2 * 5 + 1); omega
    · have := c4 (2 * 6); have := c4 (2 * 6 + 1); omega
    · have := c4 (2 * 7); have := c4 (2 * 7 + 1); omega
    · have t : S 8 (fun i => c (2 * i) + c (2 * i + 1)) = (c (2 * 0) + c (2 * 0 + 1)) + ((c (2 * 1) + c (2 * 1 + 1)) + ((c (2 * 2) + c (2 * 2 + 1)) + ((c (2 * 3) + c (2 * 3 + 1)) + ((c (2 * 4) + c (2 * 4 + 1)) + ((c (2 * 5) + c (2 * 5 + 1)) + ((c (2 * 6) + c (2 * 6 + 1)) + ((c (2 * 7) + c (2 * 7 + 1)) + 0))))))) := rfl
      have sp' : S 8 (fun i => c (2 * i) + c (2 * i + 1)) = S 64 b := sp
      omega
    · simp only [J]; rfl
theorem divq (y r q k : Nat) (h : y = r + k * q) (hr : r < k) : y / k = q := by
  rw [h, Nat.add_mul_div_left _ _ (by omega), Nat.div_eq_of_lt hr]; omega
theorem ones_end (x c0 c1 c2 c3 c4 c5 c6 c7 s : Nat) (h0 : c0 ≤ 8) (h1 : c1 ≤ 8) (h2 : c2 ≤ 8) (h3 : c3 ≤ 8) (h4 : c4 ≤ 8) (h5 : c5 ≤ 8) (h6 : c6 ≤ 8) (h7 : c7 ≤ 8)
    (e : x = c0 + 256 * (c1 + 256 * (c2 + 256 * (c3 + 256 * (c4 + 256 * (c5 + 256 * (c6 + 256 * c7))))))) (hs : c0 + c1 + c2 + c3 + c4 + c5 + c6 + c7 = s) :
    x < 2 ^ 60 ∧ x + x / 256 < 2 ^ 61 ∧ (x + x / 256) + (x + x / 256) / 65536 < 2 ^ 62 ∧ ((x + x / 256) + (x + x / 256) / 65536) + ((x + x / 256) + (x + x / 256) / 65536) / 4294967296 < 2 ^ 63 ∧
      (((x + x / 256) + (x + x / 256) / 65536) + ((x + x / 256) + (x + x / 256) / 65536) / 4294967296) % 128 = s := by
  have a1 : x / 256 = c1 + 256 * (c2 + 256 * (c3 + 256 * (c4 + 256 * (c5 + 256 * (c6 + 256 * c7))))) := divq _ c0 _ _ e (Nat.lt_of_le_of_lt h0 (by decide))
  obtain ⟨y, hy⟩ : ∃ y, y = x + x / 256 := ⟨_, rfl⟩
  have hy' := hy
  rw [a1] at hy'
  have e2 : y = ((c0 + c1) + 256 * (c1 + c2)) + 65536 * ((c2 + c3) + 256 * ((c3 + c4) + 256 * ((c4 + c5) + 256 * ((c5 + c6) + 256 * ((c6 + c7) + 256 * c7))))) := by
    clear a1 hs hy h0 h1 h2 h3 h4 h5 h6 h7; omega
  have a2 := divq _ _ _ _ e2 (by clear a1 hs hy hy' e2 e; omega)
  obtain ⟨z, hz⟩ : ∃ z, z = y + y / 65536 := ⟨_, rfl⟩
  have hz' := hz
  rw [a2] at hz'
  have e3 : z = ((c0 + c1 + c2 + c3) + 256 * ((c1 + c2 + c3 + c4) + 256 * ((c2 + c3 + c4 + c5) + 256 * (c3 + c4 + c5 + c6)))) + 4294967296 * ((c4 + c5 + c6 + c7) + 256 * ((c5 + c6 + c7) + 256 * ((c6 + c7) + 256 * c7))) := by
    clear a1 a2 hs hy hz hy' h0 h1 h2 h3 h4 h5 h6 h7; omega
  have a3 := divq _ _ _ _ e3 (by clear a1 a2 hs hy hz hy' hz' e e2 e3; omega)
  rw [← hy, ← hz, a3]
  clear hy hz a1 a2 a3 hy' hz'
  refine ⟨by clear e2 e3 hs; omega, by clear e e3 hs; omega, by clear e e2 hs; omega, by clear e e2 hs; omega, ?_⟩
  have e4 : z + (c4 + c5 + c6 + c7 + 256 * (c5 + c6 + c7 + 256 * (c6 + c7 + 256 * c7))) = s + 128 * (2 * ((c1 + c2 + c3 + c4) + 256 * ((c2 + c3 + c4 + c5) + 256 * (c3 + c4 + c5 + c6))) + 33554432 * ((c4 + c5 + c6 + c7) + 256 * ((c5 + c6 + c7) + 256 * ((c6 + c7) + 256 * c7))) + 2 * ((c5 + c6 + c7) + 256 * ((c6 + c7) + 256 * c7))) := by
    clear e e2 h0 h1 h2 h3 h4 h5 h6 h7; omega
  rw [e4, Nat.add_mul_mod_self_left]
  exact Nat.mod_eq_of_lt (by clear e e2 e3 e4; omega)

/-- How many of 0 .. n - 1 are in. -/
def cnt (m : Nat → Bool) : Nat → Nat
  | 0 => 0
  | n + 1 => cnt m n + (m n).toNat
/-- A word of a set: its bits are servers 64 j and on. -/
def wb (m : Nat → Bool) (j k : Nat) : Nat := if k < 64 then (m (64 * j + k)).toNat else 0
def wd (m : Nat → Bool) (j : Nat) : Nat := J 1 64 (wb m j)
theorem wb_le (m : Nat → Bool) (j k : Nat) : wb m j k ≤ 1 := by
  unfold wb; split
  · cases m (64 * j + k) <;> simp
  · omega
theorem wb_out (m : Nat → Bool) (j k : Nat) (h : 64 ≤ k) : wb m j k = 0 := by
  unfold wb; rw [if_neg (by omega)]
theorem wd_lt (m : Nat → Bool) (j : Nat) : wd m j < 18446744073709551616 := J_lt 1 64 _ (fun i => by have := wb_le m j i; omega)
theorem J_bit (n : Nat) (f : Nat → Nat) (h : ∀ i, f i ≤ 1) (k : Nat) : (J 1 n f).testBit k = (decide (k < n) && decide (f k = 1)) := by
  induction n generalizing f k with
  | zero => simp [J]
  | succ n ih =>
    have e : J 1 (n + 1) f = f 0 + 2 * J 1 n (fun i => f (i + 1)) := rfl
    rw [e]
    cases k with
    | zero =>
      have := h 0
      rw [Nat.testBit_zero]
      simp only [Nat.zero_lt_succ, decide_true, Bool.true_and, decide_eq_decide]
      omega
    | succ k =>
      rw [Nat.testBit_succ]
      have : (f 0 + 2 * J 1 n (fun i => f (i + 1))) / 2 = J 1 n (fun i => f (i + 1)) := by have := h 0; omega
      rw [this, ih _ (fun i => h _)]
      simp
theorem wd_bit (m : Nat → Bool) (j k : Nat) : (wd m j).testBit k = (decide (k < 64) && m (64 * j + k)) := by
  unfold wd
  rw [J_bit 64 _ (wb_le m j)]
  unfold wb
  by_cases h : k < 64
  · rw [if_pos h]; cases m (64 * j + k) <;> simp
  · simp [h]
theorem bool_one (x : Nat) : (1 &&& x = 1 ∧ (1 &&& x != 0) = true) ∨ (1 &&& x = 0 ∧ (1 &&& x != 0) = false) := by
  rw [Nat.and_comm, Nat.and_one_is_mod]
  rcases Nat.mod_two_eq_zero_or_one x with h | h <;> rw [h] <;> simp
theorem wd_has (m : Nat → Bool) (j k : Nat) (h : k < 64) : (wd m j >>> k) &&& 1 = (m (64 * j + k)).toNat := by
  have e := wd_bit m j k
  rw [Nat.testBit] at e
  rw [Nat.and_comm]
  simp only [h, decide_true, Bool.true_and] at e
  rcases bool_one (wd m j >>> k) with ⟨a, b⟩ | ⟨a, b⟩
  · rw [a, ← e, b]; rfl
  · rw [a, ← e, b]; rfl
/-- One more. -/
def put (m : Nat → Bool) (s : Nat) : Nat → Bool := fun i => m i || decide (i = s)
theorem wd_put (m : Nat → Bool) (s : Nat) : wd m (s / 64) ||| (1 <<< (s % 64)) = wd (put m s) (s / 64) := by
  refine Nat.eq_of_testBit_eq fun i => ?_
  rw [Nat.testBit_or, wd_bit, wd_bit, Nat.one_shiftLeft, Nat.testBit_two_pow]
  unfold put
  by_cases h : i < 64
  · have : (s % 64 = i) = (64 * (s / 64) + i = s) := by apply propext; omega
    simp [h, this]
  · have : ¬ s % 64 = i := by omega
    simp [h, this]
theorem wd_put_other (m : Nat → Bool) (s j : Nat) (h : j ≠ s / 64) : wd (put m s) j = wd m j := by
  refine Nat.eq_of_testBit_eq fun i => ?_
  rw [wd_bit, wd_bit]
  unfold put
  by_cases hi : i < 64
  · have : ¬ 64 * j + i = s := by omega
    simp [this]
  · simp [hi]
theorem wd_and (m n : Nat → Bool) (j : Nat) : wd m j &&& wd n j = wd (fun i => m i && n i) j := by
  refine Nat.eq_of_testBit_eq fun i => ?_
  rw [Nat.testBit_and, wd_bit, wd_bit, wd_bit]
  cases decide (i < 64) <;> simp
theorem wd_none (j : Nat) : wd (fun _ => false) j = 0 := by
  refine Nat.eq_of_testBit_eq fun i => ?_
  rw [wd_bit]; simp
theorem cnt_add (m : Nat → Bool) (a b : Nat) : cnt m (a + b) = cnt m a + cnt (fun i => m (a + i)) b := by
  induction b with
  | zero => rfl
  | succ b ih =>
    show cnt m (a + b) + (m (a + b)).toNat = _
    rw [ih]; simp only [cnt]; omega
theorem cnt_le (m : Nat → Bool) (n : Nat) : cnt m n ≤ n := by
  induction n with
  | zero => exact Nat.le_refl _
  | succ n ih => simp only [cnt]; cases m n <;> simp <;> omega
theorem S_snoc (n : Nat) (f : Nat → Nat) : S (n + 1) f = S n f + f n := by
  induction n generalizing f with
  | zero => simp [S]
  | succ n ih =>
    rw [S, ih]
    show f 0 + (S n (fun i => f (i + 1)) + f (n + 1)) = f 0 + S n (fun i => f (i + 1)) + f (n + 1)
    omega
theorem S_cnt (m : Nat → Bool) (j n : Nat) (h : n ≤ 64) : S n (wb m j) = cnt (fun i => m (64 * j + i)) n := by
  induction n with
  | zero => rfl
  | succ n ih =>
    rw [S_snoc, ih (by omega), cnt]
    unfold wb
    rw [if_pos (by omega)]
theorem cnt_more (m : Nat → Bool) (n k : Nat) (h : ∀ i, m i = true → i < n) : cnt m (n + k) = cnt m n := by
  induction k with
  | zero => rfl
  | succ k ih =>
    show cnt m (n + k) + (m (n + k)).toNat = _
    rw [ih]
    have : m (n + k) = false := by
      cases e : m (n + k)
      · rfl
      · exact absurd (h _ e) (by omega)
    rw [this]; rfl
/-- The four words together. -/
theorem cnt_words (m : Nat → Bool) (n : Nat) (hn : n ≤ 256) (h : ∀ i, m i = true → i < n) : S 64 (wb m 0) + S 64 (wb m 1) + S 64 (wb m 2) + S 64 (wb m 3) = cnt m n := by
  rw [S_cnt m 0 64 (by omega), S_cnt m 1 64 (by omega), S_cnt m 2 64 (by omega), S_cnt m 3 64 (by omega)]
  have e := cnt_more m n (256 - n) h
  rw [show n + (256 - n) = 64 + (64 + (64 + 64)) by omega, cnt_add m 64, cnt_add _ 64 (64 + 64), cnt_add _ 64 64] at e
  have z : (fun i => m (64 * 0 + i)) = m := by funext i; congr 1; omega
  have z1 : (fun i => m (64 * 1 + i)) = (fun i => m (64 + i)) := rfl
  have z2 : (fun i => m (64 * 2 + i)) = (fun i => m (64 + (64 + i))) := by funext i; congr 1; omega
  have z3 : (fun i => m (64 * 3 + i)) = (fun i => m (64 + (64 + (64 + i)))) := by funext i; congr 1; omega
  rw [z, z1, z2, z3]
  omega
theorem cnt_list (m : Nat → Bool) (n : Nat) : ((List.range n).filter m).length = cnt m n := by
  induction n with
  | zero => rfl
  | succ n ih =>
    rw [List.range_succ, List.filter_append, List.length_append, ih, cnt]
    cases e : m n <;> simp [e]
theorem cnt_not (m : Nat → Bool) (n : Nat) : cnt (fun i => !m i) n + cnt m n = n := by
  induction n with
  | zero => rfl
  | succ n ih => simp only [cnt]; cases m n <;> simp <;> omega
theorem cnt_put (m : Nat → Bool) (s n : Nat) (h : s < n) : cnt (put m s) n = cnt m n + (!m s).toNat := by
  induction n with
  | zero => omega
  | succ n ih =>
    simp only [cnt]
    by_cases e : s = n
    · subst e
      have : cnt (put m s) s = cnt m s := by
        clear ih h
        have : ∀ k, k ≤ s → cnt (put m s) k = cnt m k := by
          intro k hk
          induction k with
          | zero => rfl
          | succ k ih =>
            simp only [cnt]
            rw [ih (by omega)]
            have : put m s k = m k := by unfold put; rw [decide_eq_false (by omega)]; simp
            rw [this]
        exact this s (Nat.le_refl _)
      rw [this]
      unfold put
      cases m s <;> simp
    · rw [ih (by omega)]
      have : put m s n = m n := by unfold put; rw [decide_eq_false (by omega)]; simp
      rw [this]; omega
theorem put_in (m : Nat → Bool) (s : Nat) (h : m s = true) : put m s = m := by
  funext i
  unfold put
  by_cases e : i = s
  · subst e; simp [h]
  · simp [e]
end Go.Proofs.Ythcnpijgfhinhaa.Q
