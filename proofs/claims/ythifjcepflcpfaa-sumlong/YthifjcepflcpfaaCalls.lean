import Derived.Test.YthifjcepflcpfaaRows
import Derived.Test.YthifjcepflcpfaaMath
import Derived.WalkKit
import Derived.WalkSpells
import Derived.WalkLawsBesides
import Derived.Deep.QuietTactic
import Derived.Deep.LoopGhost
import Derived.BigQuiet
namespace Go.Proofs.Ythifjcepflcpfaa
open Go.RowKit

theorem u32_nat (c : Nat) (hc : c < 4294967296) : (BitVec.ofInt 32 (c : Int)).toNat = c := by
  rw [BitVec.toNat_ofInt]; simp; omega
theorem u32_xor_nat (a b : Nat) (ha : a < 4294967296) (hb : b < 4294967296) : bits .xor .u32 (a : Int) (b : Int) = ((a ^^^ b : Nat) : Int) := by
  have hx : a ^^^ b < 2 ^ 32 := Nat.xor_lt_two_pow ha hb
  show IntKind.u32.wrap ((BitVec.ofInt 32 (a : Int) ^^^ BitVec.ofInt 32 (b : Int)).toNat : Int) = _
  rw [BitVec.toNat_xor, u32_nat a ha, u32_nat b hb, IntKind.wrap_u32]
  omega
theorem u32_and_nat (a b : Nat) (ha : a < 4294967296) (hb : b < 4294967296) : bits .and .u32 (a : Int) (b : Int) = ((a &&& b : Nat) : Int) := by
  have hx : a &&& b < 2 ^ 32 := Nat.and_lt_two_pow a hb
  show IntKind.u32.wrap ((BitVec.ofInt 32 (a : Int) &&& BitVec.ofInt 32 (b : Int)).toNat : Int) = _
  rw [BitVec.toNat_and, u32_nat a ha, u32_nat b hb, IntKind.wrap_u32]
  omega
theorem u32_low (a : Nat) (ha : a < 4294967296) : bits .and .u32 (a : Int) 1 = ((a % 2 : Nat) : Int) := by
  have := u32_and_nat a 1 ha (by omega)
  rw [Nat.and_one_is_mod] at this
  exact this
theorem u32_high (a : Nat) (ha : a < 4294967296) : bits .and .u32 (a : Int) 2147483648 = if 2147483648 ≤ a then 2147483648 else 0 := by
  have h := u32_and_nat a 2147483648 ha (by omega)
  have t : a.testBit 31 = decide (2147483648 ≤ a) := by
    rw [Nat.testBit_eq_decide_div_mod_eq, decide_eq_decide]; omega
  have h' : bits .and .u32 (a : Int) 2147483648 = ((a &&& 2 ^ 31 : Nat) : Int) := h
  have e : a &&& 2 ^ 31 = if 2147483648 ≤ a then 2147483648 else 0 := by
    refine Nat.eq_of_testBit_eq fun i => ?_
    rw [Nat.testBit_and]
    by_cases hi : i = 31
    · subst hi
      by_cases c : 2147483648 ≤ a
      · rw [t, if_pos c, decide_eq_true c, show 2147483648 = 2 ^ 31 from rfl]; simp
      · rw [t, if_neg c, decide_eq_false c]; simp
    · rw [Nat.testBit_two_pow_of_ne (by omega), Bool.and_false]
      by_cases c : 2147483648 ≤ a
      · rw [if_pos c, show 2147483648 = 2 ^ 31 from rfl, Nat.testBit_two_pow_of_ne (by omega)]
      · rw [if_neg c, Nat.zero_testBit]
  rw [h', e]
  by_cases c : 2147483648 ≤ a
  · rw [if_pos c, if_pos c]; rfl
  · rw [if_neg c, if_neg c]; rfl

set_option maxHeartbeats 400000 in
theorem shift_v (a v : Nat) (w : World) (h1 : a < 4294967296) (hv : Crc.sh a = v) :
    Calls Try.prog 7 #[.int .u32 (a : Int)] w fun e w' => e = .returned (.int .u32 (v : Int)) ∧ w' = w := by
  have e1 := u32_low a h1
  by_cases h : a % 2 = 1
  · have e2 : bits .xor .u32 ((a : Int) / 2) 3988292384 = (v : Int) := by
      have := u32_xor_nat (a / 2) 3988292384 (by omega) (by omega)
      rw [← hv, Crc.sh, if_pos h, Nat.xor_comm]; simpa using this
    rw [h] at e1
    clear hv h
    go_enter Try.func7, Try.ntmps7
    go_wp2
    go_ret
    exact ⟨rfl, rfl⟩
  · have E : Hid (v = a / 2) := by
      show v = a / 2
      rw [← hv, Crc.sh, if_neg h, Nat.zero_xor]
    rw [show a % 2 = 0 by omega] at e1
    clear hv h
    go_enter Try.func7, Try.ntmps7
    go_wp2
    go_ret
    refine ⟨?_, rfl⟩
    rw [E.out]; simp

/-- k rounds of the product are to come. -/
structure PI (b V k A C S : Nat) : Prop where
  le : k ≤ 32
  la : A < 4294967296
  lc : C < 4294967296
  ls : S < 4294967296
  cur : C = (b * 2 ^ (32 - k)) % 4294967296
  val : S ^^^ Crc.pr k A b = V
theorem PI.start (a b : Nat) (ha : a < 4294967296) (hb : b < 4294967296) : PI b (Crc.mul a b) 32 a b 0 :=
  ⟨Nat.le_refl _, ha, hb, by omega, by simp; omega, by rw [Nat.zero_xor]; rfl⟩
theorem PI.bit {b V k A C S : Nat} (p : PI b V k A C S) (j : Nat) (hj : j < k) : b.testBit j = C.testBit (j + (32 - k)) := by
  have := p.le
  rw [p.cur, show 4294967296 = 2 ^ 32 from rfl, Nat.testBit_mod_two_pow, Nat.testBit_mul_two_pow]
  simp [show j + (32 - k) < 32 by omega]
theorem pr_none (b : Nat) : ∀ k a, (∀ j, j < k → b.testBit j = false) → Crc.pr k a b = 0
  | 0, _, _ => rfl
  | k + 1, a, h => by
    show (if b.testBit k = true then a else 0) ^^^ Crc.pr k (Crc.sh a) b = 0
    rw [h k (by omega), pr_none b k _ (fun j hj => h j (by omega))]; simp
theorem PI.done {b V k A C S : Nat} (p : PI b V k A C S) (h : C = 0) : S = V := by
  have := p.val
  rwa [pr_none b k A (fun j hj => by rw [p.bit j hj, h, Nat.zero_testBit]), Nat.xor_zero] at this
theorem PI.more {b V k A C S : Nat} (p : PI b V k A C S) (h : C ≠ 0) : ∃ j, k = j + 1 := by
  cases k with
  | zero => exact absurd p.cur (by simp; exact h)
  | succ j => exact ⟨j, rfl⟩
theorem PI.high {b V j A C S : Nat} (p : PI b V (j + 1) A C S) (h : 2147483648 ≤ C) : PI b V j (Crc.sh A) (C * 2 % 4294967296) (S ^^^ A) := by
  have l := p.le
  have t : b.testBit j = true := by
    rw [p.bit j (by omega), show j + (32 - (j + 1)) = 31 by omega, Nat.testBit_eq_decide_div_mod_eq]
    exact decide_eq_true (by have := p.lc; omega)
  refine ⟨by omega, Crc.sh_lt A p.la, by omega, Nat.xor_lt_two_pow (n := 32) p.ls p.la, ?_, ?_⟩
  · rw [p.cur, show 32 - j = (32 - (j + 1)) + 1 by omega, Nat.pow_succ, ← Nat.mul_assoc]; omega
  · rw [← p.val]
    show _ = S ^^^ ((if b.testBit j = true then A else 0) ^^^ Crc.pr j (Crc.sh A) b)
    rw [t, if_pos rfl, Nat.xor_assoc]
theorem PI.low {b V j A C S : Nat} (p : PI b V (j + 1) A C S) (h : C < 2147483648) : PI b V j (Crc.sh A) (C * 2 % 4294967296) S := by
  have l := p.le
  have t : b.testBit j = false := by
    rw [p.bit j (by omega), show j + (32 - (j + 1)) = 31 by omega]
    exact Nat.testBit_lt_two_pow h
  refine ⟨by omega, Crc.sh_lt A p.la, by omega, p.ls, ?_, ?_⟩
  · rw [p.cur, show 32 - j = (32 - (j + 1)) + 1 by omega, Nat.pow_succ, ← Nat.mul_assoc]; omega
  · rw [← p.val]
    show _ = S ^^^ ((if b.testBit j = true then A else 0) ^^^ Crc.pr j (Crc.sh A) b)
    rw [t, if_neg (by simp), Nat.zero_xor]

set_option maxHeartbeats 1000000 in
theorem product_v (a b v : Nat) (w : World) (ha : a < 4294967296) (hb : b < 4294967296) (hv : Crc.mul a b = v) :
    Calls Try.prog 6 #[.int .u32 (a : Int), .int .u32 (b : Int)] w fun e w' => e = .returned (.int .u32 (v : Int)) ∧ w' = w := by
  have P0 : Hid (PI b v 32 a b 0) := hv ▸ PI.start a b ha hb
  clear hv
  go_enter Try.func6, Try.ntmps6
  go_wp2
  go_loopg [0, 1, 5] 32 (fun k x y s wr => ∃ A C S : Nat, x = .int .u32 (A : Int) ∧ y = .int .u32 (C : Int) ∧ s = .int .u32 (S : Int) ∧ PI b v k A C S ∧ wr = w)
  case atStart => exact ⟨a, b, 0, rfl, rfl, rfl, P0.out, rfl⟩
  case round =>
    obtain ⟨A, C, S, rfl, rfl, rfl, p, rfl⟩ := hrel
    have la := p.la
    have lc := p.lc
    have ls := p.ls
    by_cases hz : C = 0
    · have E : Hid (S = v) := p.done hz
      clear p
      subst hz
      go_wp2
      go_ret
      exact ⟨by rw [← E.out]; rfl, rfl⟩
    · obtain ⟨j, rfl⟩ := p.more hz
      obtain ⟨A', hA⟩ : ∃ x, Crc.sh A = x := ⟨_, rfl⟩
      have t0 : ((C : Int) != 0) = true := by simp; omega
      have HA : Hid (Crc.sh A = A') := hA
      have e := u32_high C lc
      by_cases hh : 2147483648 ≤ C
      · have P1 : Hid (PI b v j A' (C * 2 % 4294967296) (S ^^^ A)) := hA ▸ p.high hh
        rw [if_pos hh] at e
        have ex := u32_xor_nat S A ls la
        clear p hA
        go_wp2_with fail
        refine (shift_v A A' _ la HA.out).mono ?_
        rintro e w1 ⟨rfl, rfl⟩
        go_wp2
        go_roundg j
        case measure => omega
        case rel => exact ⟨A', C * 2 % 4294967296, S ^^^ A, rfl, by go_num, rfl, P1.out, rfl⟩
      · have P1 : Hid (PI b v j A' (C * 2 % 4294967296) S) := hA ▸ p.low (by omega)
        rw [if_neg hh] at e
        clear p hA
        go_wp2_with fail
        refine (shift_v A A' _ la HA.out).mono ?_
        rintro e w1 ⟨rfl, rfl⟩
        go_wp2
        go_roundg j
        case measure => omega
        case rel => exact ⟨A', C * 2 % 4294967296, S, rfl, by go_num, rfl, P1.out, rfl⟩

theorem i64_low (n : Nat) (h : n < 9223372036854775808) : bits .and .i64 (n : Int) 1 = ((n % 2 : Nat) : Int) := by
  have o : (BitVec.ofInt 64 (n : Int)).toNat = n := by rw [BitVec.toNat_ofInt]; simp; omega
  show IntKind.i64.wrap ((BitVec.ofInt 64 (n : Int) &&& BitVec.ofInt 64 1).toNat : Int) = _
  rw [BitVec.toNat_and, o, show (BitVec.ofInt 64 1).toNat = 1 from rfl, Nat.and_one_is_mod, IntKind.wrap_i64]
  omega

/-- n steps are to come, each by p. -/
structure SI (v n a p : Nat) : Prop where
  la : a < 4294967296
  lp : p < 4294967296
  val : Crc.mul a (Crc.pw p n) = v
theorem SI.done {v a p : Nat} (s : SI v 0 a p) : a = v := by
  have := s.val
  rwa [show Crc.pw p 0 = 2147483648 from rfl, Crc.mul_one a s.la] at this
theorem SI.odd {v n a p : Nat} (s : SI v n a p) (h : n % 2 = 1) : SI v (n / 2) (Crc.mul a p) (Crc.mul p p) := by
  refine ⟨Crc.mul_lt _ _ s.la, Crc.mul_lt _ _ s.lp, ?_⟩
  rw [← s.val, Crc.pw_sq p s.lp, Crc.mul_assoc a p _ s.la s.lp (Crc.pw_lt p s.lp _)]
  have : Crc.mul p (Crc.pw p (2 * (n / 2))) = Crc.pw p n := by
    have e := Crc.pw_add p s.lp 1 (2 * (n / 2))
    rw [Crc.pw_one p s.lp, show 1 + 2 * (n / 2) = n by omega] at e
    exact e.symm
  rw [this]
theorem SI.even {v n a p : Nat} (s : SI v n a p) (h : n % 2 = 0) : SI v (n / 2) a (Crc.mul p p) := by
  refine ⟨s.la, Crc.mul_lt _ _ s.lp, ?_⟩
  rw [← s.val, Crc.pw_sq p s.lp, show 2 * (n / 2) = n by omega]

set_option maxHeartbeats 1000000 in
theorem past_v (a n v : Nat) (w : World) (ha : a < 4294967296) (hn : n < 9223372036854775808) (hv : Crc.past n a = v) :
    Calls Try.prog 5 #[.int .u32 (a : Int), .int .i64 (n : Int)] w fun e w' => e = .returned (.int .u32 (v : Int)) ∧ w' = w := by
  have P0 : Hid (SI v n a 8388608) := ⟨ha, by omega, hv⟩
  clear hv
  go_enter Try.func5, Try.ntmps5
  go_wp2
  go_loopg [0, 1, 5] n (fun k x y s wr => ∃ A Q : Nat, x = .int .u32 (A : Int) ∧ y = .int .i64 (k : Int) ∧ s = .int .u32 (Q : Int) ∧ SI v k A Q ∧ k < 9223372036854775808 ∧ wr = w)
  case atStart => exact ⟨a, 8388608, rfl, rfl, rfl, P0.out, hn, rfl⟩
  case round =>
    obtain ⟨A, Q, rfl, rfl, rfl, p, hk, rfl⟩ := hrel
    have la := p.la
    have lp := p.lp
    by_cases hz : gk = 0
    · subst hz
      have E : Hid (A = v) := p.done
      clear p
      go_wp2
      go_ret
      exact ⟨by rw [← E.out]; rfl, rfl⟩
    · have t0 : (gk : Int) > 0 := by omega
      obtain ⟨Q', hQ⟩ : ∃ x, Crc.mul Q Q = x := ⟨_, rfl⟩
      have HQ : Hid (Crc.mul Q Q = Q') := hQ
      have e := i64_low gk hk
      by_cases hh : gk % 2 = 1
      · obtain ⟨A', hA⟩ : ∃ x, Crc.mul A Q = x := ⟨_, rfl⟩
        have HA : Hid (Crc.mul A Q = A') := hA
        have P1 : Hid (SI v (gk / 2) A' Q') := hA ▸ hQ ▸ p.odd hh
        rw [hh] at e
        clear p hA hQ hh
        go_wp2_with fail
        refine (product_v A Q A' _ la lp HA.out).mono ?_
        rintro e w1 ⟨rfl, rfl⟩
        go_wp2_with fail
        refine (product_v Q Q Q' _ lp lp HQ.out).mono ?_
        rintro e w1 ⟨rfl, rfl⟩
        go_wp2
        go_roundg (gk / 2)
        case measure => omega
        case rel => exact ⟨A', Q', rfl, by go_num, rfl, P1.out, by omega, rfl⟩
      · have P1 : Hid (SI v (gk / 2) A Q') := hQ ▸ p.even (by omega)
        rw [show gk % 2 = 0 by omega] at e
        clear p hQ hh
        go_wp2_with fail
        refine (product_v Q Q Q' _ lp lp HQ.out).mono ?_
        rintro e w1 ⟨rfl, rfl⟩
        go_wp2
        go_roundg (gk / 2)
        case measure => omega
        case rel => exact ⟨A, Q', rfl, by go_num, rfl, P1.out, by omega, rfl⟩

set_option maxHeartbeats 400000 in
theorem join_v (a b n u v : Nat) (w : World) (ha : a < 4294967296) (hb : b < 4294967296) (hn : n < 9223372036854775808) (hu : Crc.past n a = u) (hv : u ^^^ b = v) :
    Calls Try.prog 4 #[.int .u32 (a : Int), .int .u32 (b : Int), .int .i64 (n : Int)] w fun e w' => e = .returned (.tuple #[.int .u32 (v : Int), .int .i64 0]) ∧ w' = w := by
  have lu : u < 4294967296 := hu ▸ Crc.past_lt n a ha
  have e := u32_xor_nat u b lu hb
  rw [hv] at e
  have HU : Hid (Crc.past n a = u) := hu
  clear hu hv
  go_enter Try.func4, Try.ntmps4
  go_wp2_with fail
  refine (past_v a n u _ ha hn HU.out).mono ?_
  rintro x w1 ⟨rfl, rfl⟩
  go_wp2
  go_ret2
  exact ⟨rfl, rfl⟩

set_option maxHeartbeats 400000 in
theorem join_neg (a b n : Int) (w : World) (hn : n < 0) :
    Calls Try.prog 4 #[.int .u32 a, .int .u32 b, .int .i64 n] w fun e w' => e = .returned (.tuple #[.int .u32 0, .int .i64 1]) ∧ w' = w := by
  go_enter Try.func4, Try.ntmps4
  go_wp2
  go_ret2
  exact ⟨rfl, rfl⟩
end Go.Proofs.Ythifjcepflcpfaa
