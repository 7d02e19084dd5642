namespace Go.Proofs.Ythifjcepflcpfaa
namespace Crc

/-- One bit on: the polynomial times x, modulo the divisor. -/
def sh (a : Nat) : Nat := (if a % 2 = 1 then 3988292384 else 0) ^^^ (a / 2)
/-- The first k rounds of the product, from bit k - 1 of b down. -/
def pr : Nat → Nat → Nat → Nat
  | 0, _, _ => 0
  | k + 1, a, b => (if b.testBit k = true then a else 0) ^^^ pr k (sh a) b
def mul (a b : Nat) : Nat := pr 32 a b
def pw (p : Nat) : Nat → Nat
  | 0 => 2147483648
  | n + 1 => mul (pw p n) p

theorem sh_xor (a b : Nat) : sh (a ^^^ b) = sh a ^^^ sh b := by
  have e : (a ^^^ b) / 2 = a / 2 ^^^ b / 2 := by
    have := Nat.xor_div_two (a := a) (b := b); exact this
  have m : (a ^^^ b) % 2 = (a % 2 + b % 2) % 2 := by
    have := Nat.xor_mod_two_eq_one (a := a) (b := b); omega
  unfold sh
  rw [e, m]
  rcases Nat.mod_two_eq_zero_or_one a with ha | ha <;> rcases Nat.mod_two_eq_zero_or_one b with hb | hb <;> rw [ha, hb]
  · simp
  · simp; ac_rfl
  · simp [Nat.xor_assoc]
  · simp
    have : 3988292384 ^^^ a / 2 ^^^ (3988292384 ^^^ b / 2) = (3988292384 ^^^ 3988292384) ^^^ (a / 2 ^^^ b / 2) := by ac_rfl
    rw [this]; simp
theorem sh_zero : sh 0 = 0 := rfl
theorem sh_pow (k : Nat) : sh (2 ^ (k + 1)) = 2 ^ k := by
  have : 2 ^ (k + 1) = 2 * 2 ^ k := by rw [Nat.pow_succ, Nat.mul_comm]
  unfold sh
  rw [this, if_neg (by omega), Nat.zero_xor]
  omega
theorem sh_lt (a : Nat) (h : a < 4294967296) : sh a < 4294967296 := by
  refine Nat.xor_lt_two_pow (n := 32) ?_ (by omega)
  split <;> omega
theorem pr_xor (b : Nat) : ∀ k x y, pr k (x ^^^ y) b = pr k x b ^^^ pr k y b
  | 0, _, _ => by simp [pr]
  | k + 1, x, y => by
    show (if b.testBit k = true then x ^^^ y else 0) ^^^ pr k (sh (x ^^^ y)) b = ((if b.testBit k = true then x else 0) ^^^ pr k (sh x) b) ^^^ ((if b.testBit k = true then y else 0) ^^^ pr k (sh y) b)
    rw [sh_xor, pr_xor b k]
    cases b.testBit k
    · simp
    · simp; ac_rfl
theorem pr_sh (b : Nat) : ∀ k x, pr k (sh x) b = sh (pr k x b)
  | 0, _ => by simp [pr, sh_zero]
  | k + 1, x => by
    show (if b.testBit k = true then sh x else 0) ^^^ pr k (sh (sh x)) b = sh ((if b.testBit k = true then x else 0) ^^^ pr k (sh x) b)
    rw [sh_xor, pr_sh b k]
    cases b.testBit k
    · simp [sh_zero]
    · simp
theorem pr_lt (b : Nat) : ∀ k x, x < 4294967296 → pr k x b < 4294967296
  | 0, _, _ => by show 0 < 4294967296; omega
  | k + 1, x, h => by
    refine Nat.xor_lt_two_pow (n := 32) ?_ (pr_lt b k _ (sh_lt x h))
    split <;> omega
theorem mod_bit (b k : Nat) : b % 2 ^ (k + 1) = (if b.testBit k = true then 2 ^ k else 0) ^^^ (b % 2 ^ k) := by
  refine Nat.eq_of_testBit_eq fun i => ?_
  rw [Nat.testBit_xor, Nat.testBit_mod_two_pow, Nat.testBit_mod_two_pow]
  by_cases h : i = k
  · subst h
    cases e : b.testBit i <;> simp [Nat.testBit_two_pow_self]
  · cases e : b.testBit k
    · by_cases l : i < k
      · simp [l, show i < k + 1 by omega]
      · simp [l, show ¬ i < k + 1 by omega]
    · rw [if_pos rfl, Nat.testBit_two_pow_of_ne (by omega)]
      by_cases l : i < k
      · simp [l, show i < k + 1 by omega]
      · simp [l, show ¬ i < k + 1 by omega]
/-- A map that is linear and goes along with sh is a product. -/
theorem linear (f : Nat → Nat) (hx : ∀ a b, f (a ^^^ b) = f a ^^^ f b) (hs : ∀ a, f (sh a) = sh (f a)) (b : Nat) : ∀ k, pr (k + 1) (f (2 ^ k)) b = f (b % 2 ^ (k + 1)) := by
  have f0 : f 0 = 0 := by have := hx 0 0; rw [Nat.xor_self] at this; rw [this, Nat.xor_self]
  intro k
  induction k with
  | zero =>
    rw [mod_bit b 0]
    show (if b.testBit 0 = true then f (2 ^ 0) else 0) ^^^ 0 = _
    rw [hx]
    cases b.testBit 0 <;> simp [Nat.mod_one, f0]
  | succ k ih =>
    rw [mod_bit b (k + 1), hx, ← ih]
    show (if b.testBit (k + 1) = true then f (2 ^ (k + 1)) else 0) ^^^ pr (k + 1) (sh (f (2 ^ (k + 1)))) b = _
    rw [← hs, sh_pow]
    cases b.testBit (k + 1) <;> simp [f0]
theorem linear32 (f : Nat → Nat) (hx : ∀ a b, f (a ^^^ b) = f a ^^^ f b) (hs : ∀ a, f (sh a) = sh (f a)) (b : Nat) (hb : b < 4294967296) : f b = mul (f 2147483648) b := by
  have := linear f hx hs b 31
  rw [Nat.mod_eq_of_lt (show b < 2 ^ (31 + 1) by omega)] at this
  exact this.symm
theorem mul_lt (a b : Nat) (h : a < 4294967296) : mul a b < 4294967296 := pr_lt b 32 a h
theorem one_mul (b : Nat) (h : b < 4294967296) : mul 2147483648 b = b := (linear32 (fun x => x) (fun _ _ => rfl) (fun _ => rfl) b h).symm
theorem mul_comm (a b : Nat) (ha : a < 4294967296) (hb : b < 4294967296) : mul a b = mul b a := by
  rw [linear32 (fun x => mul x b) (fun x y => pr_xor b 32 x y) (fun x => pr_sh b 32 x) a ha, one_mul b hb]
theorem mul_one (a : Nat) (h : a < 4294967296) : mul a 2147483648 = a := by
  rw [mul_comm a _ h (by omega), one_mul a h]
theorem mul_xor (a x y : Nat) (ha : a < 4294967296) (hx : x < 4294967296) (hy : y < 4294967296) : mul a (x ^^^ y) = mul a x ^^^ mul a y := by
  rw [mul_comm a _ ha (Nat.xor_lt_two_pow (n := 32) hx hy), mul_comm a x ha hx, mul_comm a y ha hy]
  exact pr_xor a 32 x y
theorem mul_swap (a b c : Nat) (hb : b < 4294967296) : mul (mul b a) c = mul (mul (mul 2147483648 a) c) b :=
  linear32 (fun x => mul (mul x a) c) (fun x y => by show pr 32 (pr 32 (x ^^^ y) a) c = _; rw [pr_xor, pr_xor]; rfl) (fun x => by show pr 32 (pr 32 (sh x) a) c = _; rw [pr_sh, pr_sh]; rfl) b hb
theorem mul_assoc (a b c : Nat) (ha : a < 4294967296) (hb : b < 4294967296) (_hc : c < 4294967296) : mul (mul a b) c = mul a (mul b c) := by
  rw [mul_swap b a c ha, one_mul b hb, mul_comm a _ ha (mul_lt b c hb)]
theorem pw_lt (p : Nat) (hp : p < 4294967296) : ∀ n, pw p n < 4294967296
  | 0 => by show 2147483648 < 4294967296; omega
  | n + 1 => mul_lt _ _ (pw_lt p hp n)
theorem pw_add (p : Nat) (hp : p < 4294967296) (n : Nat) : ∀ m, pw p (n + m) = mul (pw p n) (pw p m)
  | 0 => (mul_one _ (pw_lt p hp n)).symm
  | m + 1 => by
    show mul (pw p (n + m)) p = mul (pw p n) (mul (pw p m) p)
    rw [pw_add p hp n m, mul_assoc _ _ _ (pw_lt p hp n) (pw_lt p hp m) hp]
theorem pw_one (p : Nat) (hp : p < 4294967296) : pw p 1 = p := one_mul p hp
theorem pw_sq (p : Nat) (hp : p < 4294967296) : ∀ n, pw (mul p p) n = pw p (2 * n)
  | 0 => rfl
  | n + 1 => by
    show mul (pw (mul p p) n) (mul p p) = _
    rw [pw_sq p hp n, show 2 * (n + 1) = 2 * n + (1 + 1) by omega, pw_add p hp, pw_add p hp, pw_one p hp]

/-- Past n steps of zeros. -/
def past (n a : Nat) : Nat := mul a (pw 8388608 n)
theorem past_lt (n a : Nat) (h : a < 4294967296) : past n a < 4294967296 := mul_lt _ _ h
theorem past_zero (a : Nat) (h : a < 4294967296) : past 0 a = a := mul_one a h
theorem past_add (n m a : Nat) (h : a < 4294967296) : past m (past n a) = past (n + m) a := by
  unfold past
  rw [mul_assoc _ _ _ h (pw_lt _ (by omega) n) (pw_lt _ (by omega) m), pw_add _ (by omega)]
theorem past_one : past 1 1 = 1996959894 := by
  unfold past; rw [pw_one _ (by omega)]; decide
end Crc
end Go.Proofs.Ythifjcepflcpfaa
