import Derived.Test.YthifjcepflcpfaaCalls
import Derived.Below
namespace Go.Proofs.Ythifjcepflcpfaa
open Go.RowKit

theorem below_drewN {B : Nat} {w w' : World} (h : Below B w w') (n : Nat) : Below B w (w'.drewN n) :=
  h.trans ⟨rfl, rfl, rfl, Nat.le_refl _, fun _ _ => rfl⟩

set_option maxRecDepth 100000 in
set_option maxHeartbeats 1000000 in
theorem long_neg (z : Option Addr) (len cap a b : Nat) (n m : Int) (w : World) (hn : n < 0) :
    Calls Try.prog 3 #[.agg #[.slice z len cap, .int .u32 (a : Int), .int .u32 (b : Int), .int .i64 n, .int .i64 m]] w fun x w' => x = .returned (.bool true) ∧ Below w.heap.size w w' := by
  have H1 : Hid (Crc.past 1 1 = 1996959894) := Crc.past_one
  go_enter Try.func3, Try.ntmps3
  go_wp2_with fail
  go_quiet (fail)
  go_wp2_with fail
  refine (join_v 1 0 1 1996959894 1996959894 _ (by omega) (by omega) (by omega) H1.out rfl).mono ?_
  rintro x w1 ⟨rfl, rfl⟩
  go_wp2_with fail
  refine (join_neg a b n _ hn).mono ?_
  rintro x w1 ⟨rfl, rfl⟩
  go_wp2_with fail
  go_ret
  exact ⟨rfl, below_drewN ((Below.refl _ _).alloc (Nat.le_refl _) _) _⟩

set_option maxRecDepth 100000 in
set_option maxHeartbeats 1000000 in
theorem long_m (z : Option Addr) (len cap a b n : Nat) (m : Int) (w : World) (ha : a < 4294967296) (hb : b < 4294967296) (hn : n < 9223372036854775808) (hm : m < 0) :
    Calls Try.prog 3 #[.agg #[.slice z len cap, .int .u32 (a : Int), .int .u32 (b : Int), .int .i64 (n : Int), .int .i64 m]] w fun x w' => x = .returned (.bool true) ∧ Below w.heap.size w w' := by
  have H1 : Hid (Crc.past 1 1 = 1996959894) := Crc.past_one
  obtain ⟨y, hy⟩ : ∃ y, Crc.past n a = y := ⟨_, rfl⟩
  obtain ⟨x0, hx⟩ : ∃ x, y ^^^ b = x := ⟨_, rfl⟩
  obtain ⟨z0, hz⟩ : ∃ x, a ^^^ b = x := ⟨_, rfl⟩
  have ly : y < 4294967296 := hy ▸ Crc.past_lt n a ha
  have e1 := u32_xor_nat y b ly hb
  have e2 := u32_xor_nat a b ha hb
  rw [hx] at e1
  rw [hz] at e2
  have HY : Hid (Crc.past n a = y) := hy
  have HX : Hid (y ^^^ b = x0) := hx
  have HZ : Hid (a ^^^ b = z0) := hz
  clear hy hx hz
  go_enter Try.func3, Try.ntmps3
  go_wp2_with fail
  go_quiet (fail)
  go_wp2_with fail
  refine (join_v 1 0 1 1996959894 1996959894 _ (by omega) (by omega) (by omega) H1.out rfl).mono ?_
  rintro x w1 ⟨rfl, rfl⟩
  go_wp2_with fail
  refine (join_v a b n y x0 _ ha hb hn HY.out HX.out).mono ?_
  rintro x w1 ⟨rfl, rfl⟩
  go_wp2_with fail
  refine (join_v a 0 n y y _ ha (by omega) hn HY.out (Nat.xor_zero y)).mono ?_
  rintro x w1 ⟨rfl, rfl⟩
  go_wp2_with fail
  refine (join_v a b 0 a z0 _ ha hb (by omega) (Crc.past_zero a ha) HZ.out).mono ?_
  rintro x w1 ⟨rfl, rfl⟩
  go_wp2_with fail
  go_ret
  exact ⟨rfl, below_drewN ((Below.refl _ _).alloc (Nat.le_refl _) _) _⟩

set_option maxRecDepth 100000 in
set_option maxHeartbeats 1000000 in
theorem long_over (z : Option Addr) (len cap a b n m : Nat) (w : World) (ha : a < 4294967296) (hb : b < 4294967296) (hn : n < 9223372036854775808) (hm : m < 9223372036854775808) (ho : ¬ n + m < 9223372036854775808) :
    Calls Try.prog 3 #[.agg #[.slice z len cap, .int .u32 (a : Int), .int .u32 (b : Int), .int .i64 (n : Int), .int .i64 (m : Int)]] w fun x w' => x = .returned (.bool true) ∧ Below w.heap.size w w' := by
  have H1 : Hid (Crc.past 1 1 = 1996959894) := Crc.past_one
  obtain ⟨y, hy⟩ : ∃ y, Crc.past n a = y := ⟨_, rfl⟩
  obtain ⟨x0, hx⟩ : ∃ x, y ^^^ b = x := ⟨_, rfl⟩
  obtain ⟨z0, hz⟩ : ∃ x, a ^^^ b = x := ⟨_, rfl⟩
  have ly : y < 4294967296 := hy ▸ Crc.past_lt n a ha
  have e1 := u32_xor_nat y b ly hb
  have e2 := u32_xor_nat a b ha hb
  rw [hx] at e1
  rw [hz] at e2
  have HY : Hid (Crc.past n a = y) := hy
  have HX : Hid (y ^^^ b = x0) := hx
  have HZ : Hid (a ^^^ b = z0) := hz
  clear hy hx hz
  have t : (9223372036854775807 - (m : Int) < (n : Int)) := by omega
  go_enter Try.func3, Try.ntmps3
  go_wp2_with fail
  go_quiet (fail)
  go_wp2_with fail
  refine (join_v 1 0 1 1996959894 1996959894 _ (by omega) (by omega) (by omega) H1.out rfl).mono ?_
  rintro x w1 ⟨rfl, rfl⟩
  go_wp2_with fail
  refine (join_v a b n y x0 _ ha hb hn HY.out HX.out).mono ?_
  rintro x w1 ⟨rfl, rfl⟩
  go_wp2_with fail
  refine (join_v a 0 n y y _ ha (by omega) hn HY.out (Nat.xor_zero y)).mono ?_
  rintro x w1 ⟨rfl, rfl⟩
  go_wp2_with fail
  refine (join_v a b 0 a z0 _ ha hb (by omega) (Crc.past_zero a ha) HZ.out).mono ?_
  rintro x w1 ⟨rfl, rfl⟩
  go_wp2_with fail
  go_ret
  exact ⟨rfl, below_drewN ((Below.refl _ _).alloc (Nat.le_refl _) _) _⟩

set_option maxRecDepth 100000 in
set_option maxHeartbeats 1000000 in
theorem long_sum (z : Option Addr) (len cap a b n m : Nat) (w : World) (ha : a < 4294967296) (hb : b < 4294967296) (hn : n < 9223372036854775808) (hm : m < 9223372036854775808) (ho : n + m < 9223372036854775808) :
    Calls Try.prog 3 #[.agg #[.slice z len cap, .int .u32 (a : Int), .int .u32 (b : Int), .int .i64 (n : Int), .int .i64 (m : Int)]] w fun x w' => x = .returned (.bool true) ∧ Below w.heap.size w w' := by
  have H1 : Hid (Crc.past 1 1 = 1996959894) := Crc.past_one
  obtain ⟨y, hy⟩ : ∃ y, Crc.past n a = y := ⟨_, rfl⟩
  obtain ⟨x0, hx⟩ : ∃ x, y ^^^ b = x := ⟨_, rfl⟩
  obtain ⟨z0, hz⟩ : ∃ x, a ^^^ b = x := ⟨_, rfl⟩
  obtain ⟨q, hq⟩ : ∃ x, Crc.past (n + m) a = x := ⟨_, rfl⟩
  have ly : y < 4294967296 := hy ▸ Crc.past_lt n a ha
  have e1 := u32_xor_nat y b ly hb
  have e2 := u32_xor_nat a b ha hb
  rw [hx] at e1
  rw [hz] at e2
  have HY : Hid (Crc.past n a = y) := hy
  have HX : Hid (y ^^^ b = x0) := hx
  have HZ : Hid (a ^^^ b = z0) := hz
  have HQ : Hid (Crc.past (n + m) a = q) := hq
  have HP : Hid (Crc.past m y = q) := by show Crc.past m y = q; rw [← hy, Crc.past_add n m a ha]; exact hq
  clear hy hx hz hq
  have t : ¬ (9223372036854775807 - (m : Int) < (n : Int)) := by omega
  go_enter Try.func3, Try.ntmps3
  go_wp2_with fail
  go_quiet (fail)
  go_wp2_with fail
  refine (join_v 1 0 1 1996959894 1996959894 _ (by omega) (by omega) (by omega) H1.out rfl).mono ?_
  rintro x w1 ⟨rfl, rfl⟩
  go_wp2_with fail
  refine (join_v a b n y x0 _ ha hb hn HY.out HX.out).mono ?_
  rintro x w1 ⟨rfl, rfl⟩
  go_wp2_with fail
  refine (join_v a 0 n y y _ ha (by omega) hn HY.out (Nat.xor_zero y)).mono ?_
  rintro x w1 ⟨rfl, rfl⟩
  go_wp2_with fail
  refine (join_v a b 0 a z0 _ ha hb (by omega) (Crc.past_zero a ha) HZ.out).mono ?_
  rintro x w1 ⟨rfl, rfl⟩
  go_wp2_with fail
  refine (join_v y 0 m q q _ ly (by omega) hm HP.out (Nat.xor_zero q)).mono ?_
  rintro x w1 ⟨rfl, rfl⟩
  go_wp2_with fail
  refine (join_v a 0 (n + m) q q _ ha (by omega) ho HQ.out (Nat.xor_zero q)).mono ?_
  rintro x w1 ⟨rfl, rfl⟩
  go_wp2_with fail
  go_ret
  exact ⟨rfl, below_drewN ((Below.refl _ _).alloc (Nat.le_refl _) _) _⟩
end Go.Proofs.Ythifjcepflcpfaa
