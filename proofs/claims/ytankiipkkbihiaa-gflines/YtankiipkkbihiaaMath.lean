namespace Go.Proofs.Ytankiipkkbihiaa
namespace Gf

def dbl (P x : Nat) : Nat := if 255 < x * 2 then (x * 2) ^^^ P else x * 2
def it (P : Nat) : Nat → Nat → Nat
  | 0, x => x
  | n + 1, x => dbl P (it P n x)
def pw (P i : Nat) : Nat := it P i 1

structure Good (P : Nat) : Prop where
  lo : 256 ≤ P
  hi : P < 512
  one : pw P 255 = 1
  first : ∀ i, 0 < i → i < 255 → pw P i ≠ 1

theorem bit8 (a : Nat) (h : 256 ≤ a) (h' : a < 512) : a.testBit 8 = true := by
  rw [Nat.testBit_eq_decide_div_mod_eq]
  exact decide_eq_true (by omega)
theorem xor_high (a b : Nat) (ha : 256 ≤ a) (ha' : a < 512) (hb : 256 ≤ b) (hb' : b < 512) : a ^^^ b < 256 := by
  refine Nat.lt_pow_two_of_testBit (n := 8) _ fun i hi => ?_
  rw [Nat.testBit_xor]
  by_cases h8 : i = 8
  · subst h8; rw [bit8 a ha ha', bit8 b hb hb']; rfl
  · have h9 : 2 ^ 9 ≤ 2 ^ i := Nat.pow_le_pow_right (by omega) (by omega)
    rw [Nat.testBit_lt_two_pow (show a < 2 ^ i by omega), Nat.testBit_lt_two_pow (show b < 2 ^ i by omega)]; rfl
theorem xor_lt (a b : Nat) (ha : a < 256) (hb : b < 256) : a ^^^ b < 256 := Nat.xor_lt_two_pow (n := 8) ha hb

theorem dbl_lt {P x : Nat} (h1 : 256 ≤ P) (h2 : P < 512) (hx : x < 256) : dbl P x < 256 := by
  unfold dbl
  by_cases h : 255 < x * 2
  · rw [if_pos h]; exact xor_high _ _ (by omega) (by omega) h1 h2
  · rw [if_neg h]; omega
theorem it_lt {P x : Nat} (h1 : 256 ≤ P) (h2 : P < 512) (hx : x < 256) : ∀ n, it P n x < 256
  | 0 => hx
  | n + 1 => dbl_lt h1 h2 (it_lt h1 h2 hx n)
theorem pw_lt {P : Nat} (h1 : 256 ≤ P) (h2 : P < 512) (n : Nat) : pw P n < 256 := it_lt h1 h2 (by omega) n

theorem dbl_bit (P x : Nat) (hx : x < 256) : dbl P x = (x * 2) ^^^ (if x.testBit 7 = true then P else 0) := by
  have e : x.testBit 7 = decide (255 < x * 2) := by
    rw [Nat.testBit_eq_decide_div_mod_eq, decide_eq_decide]; omega
  unfold dbl
  rw [e]
  by_cases h : 255 < x * 2
  · simp [h]
  · simp [h]
theorem two_xor (x y : Nat) : (x ^^^ y) * 2 = (x * 2) ^^^ (y * 2) := by
  have := Nat.shiftLeft_xor_distrib (a := x) (b := y) (i := 1)
  simpa [Nat.shiftLeft_eq] using this
theorem dbl_xor (P x y : Nat) (hx : x < 256) (hy : y < 256) : dbl P (x ^^^ y) = dbl P x ^^^ dbl P y := by
  rw [dbl_bit P x hx, dbl_bit P y hy, dbl_bit P _ (xor_lt x y hx hy), two_xor, Nat.testBit_xor]
  cases x.testBit 7 <;> cases y.testBit 7
  · simp
  · simp [Nat.xor_assoc]
  · simp; ac_rfl
  · simp
    have : x * 2 ^^^ P ^^^ (y * 2 ^^^ P) = (x * 2 ^^^ y * 2) ^^^ (P ^^^ P) := by ac_rfl
    rw [this]; simp
theorem it_xor {P x y : Nat} (h1 : 256 ≤ P) (h2 : P < 512) (hx : x < 256) (hy : y < 256) : ∀ n, it P n (x ^^^ y) = it P n x ^^^ it P n y
  | 0 => rfl
  | n + 1 => by
    show dbl P (it P n (x ^^^ y)) = _
    rw [it_xor h1 h2 hx hy n, dbl_xor _ _ _ (it_lt h1 h2 hx n) (it_lt h1 h2 hy n)]; rfl
theorem it_add (P x m : Nat) : ∀ n, it P (n + m) x = it P n (it P m x)
  | 0 => by rw [Nat.zero_add]; rfl
  | n + 1 => by
    rw [show n + 1 + m = (n + m) + 1 by omega]
    show dbl P (it P (n + m) x) = dbl P (it P n (it P m x))
    rw [it_add P x m n]
theorem it_zero (P : Nat) : ∀ n, it P n 0 = 0
  | 0 => rfl
  | n + 1 => by show dbl P (it P n 0) = 0; rw [it_zero P n]; rfl

theorem Good.lt {P : Nat} (g : Good P) (n : Nat) : pw P n < 256 := pw_lt g.lo g.hi n
theorem Good.per {P : Nat} (g : Good P) (n : Nat) : pw P (n + 255) = pw P n := by
  have : pw P (n + 255) = it P n (pw P 255) := it_add P 1 255 n
  rw [this, g.one]; rfl
theorem Good.mod {P : Nat} (g : Good P) (n : Nat) : pw P (n % 255) = pw P n := by
  induction n using Nat.strongRecOn with
  | ind n ih =>
    by_cases h : n < 255
    · rw [Nat.mod_eq_of_lt h]
    · have e := ih (n - 255) (by omega)
      have p := g.per (n - 255)
      rw [show n - 255 + 255 = n by omega] at p
      rw [show n % 255 = (n - 255) % 255 by omega, e, ← p]
theorem Good.pos {P : Nat} (g : Good P) (n : Nat) : pw P n ≠ 0 := by
  intro h
  rw [← g.mod] at h
  have e : pw P (255 - n % 255 + n % 255) = it P (255 - n % 255) (pw P (n % 255)) := it_add P 1 _ _
  rw [h, it_zero, show 255 - n % 255 + n % 255 = 255 by omega, g.one] at e
  exact absurd e (by decide)
theorem Good.ne {P : Nat} (g : Good P) (i j : Nat) (h : i < j) (hj : j < 255) : pw P i ≠ pw P j := by
  intro e
  have e1 : pw P (255 - i + i) = it P (255 - i) (pw P i) := it_add P 1 _ _
  have e2 : pw P (255 - i + j) = it P (255 - i) (pw P j) := it_add P 1 _ _
  rw [e, ← e2, show 255 - i + i = 255 by omega, g.one, show 255 - i + j = (j - i) + 255 by omega, g.per] at e1
  exact g.first (j - i) (by omega) (by omega) e1.symm
theorem Good.inj {P : Nat} (g : Good P) (i j : Nat) (hi : i < 255) (hj : j < 255) (e : pw P i = pw P j) : i = j := by
  rcases Nat.lt_trichotomy i j with h | h | h
  · exact absurd e (g.ne i j h hj)
  · exact h
  · exact absurd e.symm (g.ne j i h hi)

theorem pigeon : ∀ (n : Nat) (f : Nat → Nat), (∀ i, i < n → f i < n) → (∀ i j, i < n → j < n → f i = f j → i = j) → ∀ a, a < n → ∃ i, i < n ∧ f i = a
  | 0, _, _, _, a, ha => absurd ha (by omega)
  | n + 1, f, hb, hi, a, ha => by
    by_cases hc : f n = n
    · by_cases hn : a = n
      · exact ⟨n, by omega, by omega⟩
      · obtain ⟨i, h1, h2⟩ := pigeon n f (fun i h => by
          have b := hb i (by omega)
          have : f i ≠ n := fun e => absurd (hi i n (by omega) (by omega) (by omega)) (by omega)
          omega) (fun i j h1 h2 e => hi i j (by omega) (by omega) e) a (by omega)
        exact ⟨i, by omega, h2⟩
    · have hcl : f n < n := by have := hb n (by omega); omega
      have key := pigeon n (fun i => if f i = n then f n else f i) (fun i h => by
          show (if f i = n then f n else f i) < n
          by_cases e : f i = n
          · rw [if_pos e]; exact hcl
          · rw [if_neg e]; have b := hb i (by omega); omega) (fun i j h1 h2 e => by
          have e : (if f i = n then f n else f i) = (if f j = n then f n else f j) := e
          by_cases ei : f i = n <;> by_cases ej : f j = n
          · exact hi i j (by omega) (by omega) (by omega)
          · rw [if_pos ei, if_neg ej] at e; exact absurd (hi n j (by omega) (by omega) e) (by omega)
          · rw [if_neg ei, if_pos ej] at e; exact absurd (hi i n (by omega) (by omega) e) (by omega)
          · rw [if_neg ei, if_neg ej] at e; exact hi i j (by omega) (by omega) e)
      by_cases ha1 : a = f n
      · exact ⟨n, by omega, ha1.symm⟩
      · by_cases ha2 : a = n
        · obtain ⟨i, h1, h2⟩ := key (f n) hcl
          have h2 : (if f i = n then f n else f i) = f n := h2
          by_cases e : f i = n
          · exact ⟨i, by omega, by omega⟩
          · rw [if_neg e] at h2; exact absurd (hi i n (by omega) (by omega) h2) (by omega)
        · obtain ⟨i, h1, h2⟩ := key a (by omega)
          have h2 : (if f i = n then f n else f i) = a := h2
          by_cases e : f i = n
          · rw [if_pos e] at h2; exact absurd h2.symm ha1
          · rw [if_neg e] at h2; exact ⟨i, by omega, h2⟩

theorem Good.surj {P : Nat} (g : Good P) (a : Nat) (h0 : a ≠ 0) (h1 : a < 256) : ∃ i, i < 255 ∧ pw P i = a := by
  obtain ⟨i, hi, e⟩ := pigeon 255 (fun i => pw P i - 1) (fun i _ => by have := g.lt i; have := g.pos i; show pw P i - 1 < 255; omega)
    (fun i j hi hj e => by
      have e : pw P i - 1 = pw P j - 1 := e
      have := g.pos i; have := g.pos j
      exact g.inj i j hi hj (by omega)) (a - 1) (by omega)
  have e : pw P i - 1 = a - 1 := e
  have := g.pos i
  exact ⟨i, hi, by omega⟩

def lgTo (P a : Nat) : Nat → Nat
  | 0 => 0
  | n + 1 => if pw P n = a then n else lgTo P a n
def lg (P a : Nat) : Nat := lgTo P a 255
theorem lgTo_spec (P a : Nat) : ∀ n i, i < n → pw P i = a → lgTo P a n < n ∧ pw P (lgTo P a n) = a
  | 0, i, h, _ => absurd h (by omega)
  | n + 1, i, h, e => by
    unfold lgTo
    by_cases hn : pw P n = a
    · rw [if_pos hn]; exact ⟨by omega, hn⟩
    · rw [if_neg hn]
      have hin : i ≠ n := fun x => hn (x ▸ e)
      have := lgTo_spec P a n i (by omega) e
      exact ⟨by omega, this.2⟩

def mul (P a b : Nat) : Nat := if a = 0 ∨ b = 0 then 0 else pw P (lg P a + lg P b)
def inv (P a : Nat) : Nat := pw P (255 - lg P a)

theorem Good.lg_lt {P : Nat} (g : Good P) (a : Nat) (h0 : a ≠ 0) (h1 : a < 256) : lg P a < 255 := by
  obtain ⟨i, hi, e⟩ := g.surj a h0 h1; exact (lgTo_spec P a 255 i hi e).1
theorem Good.pw_lg {P : Nat} (g : Good P) (a : Nat) (h0 : a ≠ 0) (h1 : a < 256) : pw P (lg P a) = a := by
  obtain ⟨i, hi, e⟩ := g.surj a h0 h1; exact (lgTo_spec P a 255 i hi e).2
theorem Good.lg_pw {P : Nat} (g : Good P) (i : Nat) (h : i < 255) : lg P (pw P i) = i :=
  g.inj _ _ (g.lg_lt _ (g.pos i) (g.lt i)) h (g.pw_lg _ (g.pos i) (g.lt i))
theorem Good.lg_pw_mod {P : Nat} (g : Good P) (i : Nat) : lg P (pw P i) = i % 255 := by
  rw [← g.mod i, g.lg_pw _ (by omega)]
theorem Good.pw_congr {P : Nat} (g : Good P) (i j : Nat) (h : i % 255 = j % 255) : pw P i = pw P j := by
  rw [← g.mod i, ← g.mod j, h]
theorem Good.mul_lt {P : Nat} (g : Good P) (a b : Nat) : mul P a b < 256 := by
  unfold mul
  by_cases h : a = 0 ∨ b = 0
  · rw [if_pos h]; omega
  · rw [if_neg h]; exact g.lt _
theorem Good.mul_it {P : Nat} (g : Good P) (a b : Nat) (ha : a ≠ 0) (hb : b < 256) : mul P a b = it P (lg P a) b := by
  unfold mul
  by_cases h : b = 0
  · rw [if_pos (Or.inr h), h, it_zero]
  · rw [if_neg (by omega)]
    have e : pw P (lg P a + lg P b) = it P (lg P a) (pw P (lg P b)) := it_add P 1 _ _
    rw [e, g.pw_lg b h hb]
theorem mul_comm (P a b : Nat) : mul P a b = mul P b a := by
  unfold mul
  by_cases h : a = 0 ∨ b = 0
  · rw [if_pos h, if_pos (Or.comm.1 h)]
  · rw [if_neg h, if_neg (fun x => h (Or.comm.1 x)), Nat.add_comm]
theorem mul_zero (P a : Nat) : mul P a 0 = 0 := by unfold mul; rw [if_pos (Or.inr rfl)]
theorem zero_mul (P a : Nat) : mul P 0 a = 0 := by unfold mul; rw [if_pos (Or.inl rfl)]
theorem Good.mul_eq_zero {P : Nat} (g : Good P) (a b : Nat) : mul P a b = 0 ↔ a = 0 ∨ b = 0 := by
  unfold mul
  by_cases h : a = 0 ∨ b = 0
  · rw [if_pos h]; exact ⟨fun _ => h, fun _ => rfl⟩
  · rw [if_neg h]; exact ⟨fun e => absurd e (g.pos _), fun e => absurd e h⟩
theorem Good.lg_one {P : Nat} (g : Good P) : lg P 1 = 0 := g.lg_pw 0 (by omega)
theorem Good.one_mul {P : Nat} (g : Good P) (a : Nat) (ha : a < 256) : mul P 1 a = a := by
  rw [g.mul_it 1 a (by omega) ha, g.lg_one]; rfl
theorem Good.mul_one {P : Nat} (g : Good P) (a : Nat) (ha : a < 256) : mul P a 1 = a := by rw [mul_comm, g.one_mul a ha]
theorem Good.lg_mul {P : Nat} (g : Good P) (a b : Nat) (ha : a ≠ 0) (hb : b ≠ 0) : lg P (mul P a b) = (lg P a + lg P b) % 255 := by
  unfold mul; rw [if_neg (by omega), g.lg_pw_mod]
theorem Good.mul_assoc {P : Nat} (g : Good P) (a b c : Nat) : mul P (mul P a b) c = mul P a (mul P b c) := by
  by_cases ha : a = 0
  · subst ha; rw [zero_mul, zero_mul, zero_mul]
  by_cases hb : b = 0
  · subst hb; rw [mul_zero, zero_mul, mul_zero]
  by_cases hc : c = 0
  · subst hc; rw [mul_zero, mul_zero, mul_zero]
  have n1 : mul P a b ≠ 0 := fun e => by have := (g.mul_eq_zero a b).1 e; omega
  have n2 : mul P b c ≠ 0 := fun e => by have := (g.mul_eq_zero b c).1 e; omega
  have l1 := g.lg_mul a b ha hb
  have l2 := g.lg_mul b c hb hc
  rw [show mul P (mul P a b) c = pw P (lg P (mul P a b) + lg P c) by rw [mul, if_neg (by omega)],
    show mul P a (mul P b c) = pw P (lg P a + lg P (mul P b c)) by rw [mul, if_neg (by omega)], l1, l2]
  exact g.pw_congr _ _ (by omega)
theorem Good.mul_xor {P : Nat} (g : Good P) (a b c : Nat) (hb : b < 256) (hc : c < 256) : mul P a (b ^^^ c) = mul P a b ^^^ mul P a c := by
  by_cases ha : a = 0
  · subst ha; rw [zero_mul, zero_mul, zero_mul]; rfl
  · rw [g.mul_it a _ ha (xor_lt b c hb hc), g.mul_it a b ha hb, g.mul_it a c ha hc, it_xor g.lo g.hi hb hc]
theorem Good.inv_lt {P : Nat} (g : Good P) (a : Nat) : inv P a < 256 := g.lt _
theorem Good.inv_ne {P : Nat} (g : Good P) (a : Nat) : inv P a ≠ 0 := g.pos _
theorem Good.mul_inv {P : Nat} (g : Good P) (a : Nat) (h0 : a ≠ 0) (h1 : a < 256) : mul P a (inv P a) = 1 := by
  have hl := g.lg_lt a h0 h1
  have hz := g.inv_ne a
  unfold mul; rw [if_neg (by omega)]
  unfold inv; rw [g.lg_pw_mod]
  rw [show pw P (lg P a + (255 - lg P a) % 255) = pw P 0 from g.pw_congr _ _ (by omega)]; rfl
theorem Good.div_mul {P : Nat} (g : Good P) (a b : Nat) (ha : a < 256) (h0 : b ≠ 0) (h1 : b < 256) : mul P (mul P a b) (inv P b) = a := by
  rw [g.mul_assoc, g.mul_inv b h0 h1, g.mul_one a ha]
theorem Good.inv_inv {P : Nat} (g : Good P) (a : Nat) (h0 : a ≠ 0) (h1 : a < 256) : inv P (inv P a) = a := by
  have e := g.div_mul a (inv P a) h1 (g.inv_ne a) (g.inv_lt a)
  rw [g.mul_inv a h0 h1, g.one_mul _ (g.inv_lt _)] at e; exact e
theorem Good.lg_two {P : Nat} (g : Good P) : lg P 2 = 1 := g.lg_pw 1 (by omega)
theorem Good.two_128 {P : Nat} (g : Good P) : mul P 2 128 = P &&& 255 := by
  rw [g.mul_it 2 128 (by omega) (by omega), g.lg_two]
  show dbl P 128 = _
  have h1 := g.lo
  have h2 := g.hi
  show 256 ^^^ P = P &&& 255
  rw [Nat.and_two_pow_sub_one_eq_mod (n := 8)]
  refine Nat.eq_of_testBit_eq fun i => ?_
  rw [Nat.testBit_xor, Nat.testBit_mod_two_pow, show (256 : Nat) = 2 ^ 8 from rfl, Nat.testBit_two_pow]
  by_cases h : i < 8
  · simp [h, show ¬ 8 = i by omega]
  · by_cases h8 : i = 8
    · subst h8; simp [bit8 P h1 h2]
    · have h9 : 2 ^ 9 ≤ 2 ^ i := Nat.pow_le_pow_right (by omega) (by omega)
      simp [h, show ¬ 8 = i by omega, Nat.testBit_lt_two_pow (show P < 2 ^ i by omega)]

def runs (P : Nat) : Nat → Nat → Bool
  | 0, x => x == 1
  | n + 1, x => x != 1 && runs P n (dbl P x)
theorem runs_spec (P : Nat) : ∀ n k, runs P n (pw P k) = true → pw P (k + n) = 1 ∧ ∀ i, i < n → pw P (k + i) ≠ 1
  | 0, k, h => ⟨by unfold runs at h; exact beq_iff_eq.1 h, fun i hi => absurd hi (by omega)⟩
  | n + 1, k, h => by
    unfold runs at h
    rw [Bool.and_eq_true] at h
    obtain ⟨h1, h2⟩ := h
    have h1 : pw P k ≠ 1 := bne_iff_ne.1 h1
    have h2 : runs P n (pw P (k + 1)) = true := h2
    obtain ⟨e, f⟩ := runs_spec P n (k + 1) h2
    refine ⟨by rw [show k + (n + 1) = k + 1 + n by omega]; exact e, fun i hi => ?_⟩
    by_cases h0 : i = 0
    · subst h0; exact h1
    · have := f (i - 1) (by omega)
      rwa [show k + 1 + (i - 1) = k + i by omega] at this
theorem good_of (P : Nat) (h1 : 256 ≤ P) (h2 : P < 512) (h : runs P 254 (dbl P 1) = true) : Good P := by
  obtain ⟨e, f⟩ := runs_spec P 254 1 h
  refine ⟨h1, h2, e, fun i hi hj => ?_⟩
  have := f (i - 1) (by omega)
  rwa [show 1 + (i - 1) = i by omega] at this
def polys : List Nat := [285, 299, 301, 333, 351, 355, 357, 361, 369, 391, 397, 425, 451, 463, 487, 501]
theorem polys_good (i : Nat) (h : i < 16) : Good (polys.getD i 0) := by
  have key : polys.all (fun P => decide (256 ≤ P) && decide (P < 512) && runs P 254 (dbl P 1)) = true := by decide +kernel
  have hm : polys.getD i 0 ∈ polys := by
    rw [List.getD_eq_getElem?_getD, List.getElem?_eq_getElem (show i < polys.length from h)]
    exact List.getElem_mem _
  have k := List.all_eq_true.1 key _ hm
  simp only [Bool.and_eq_true, decide_eq_true_eq] at k
  exact good_of _ k.1.1 k.1.2 k.2
end Gf
end Go.Proofs.Ytankiipkkbihiaa
