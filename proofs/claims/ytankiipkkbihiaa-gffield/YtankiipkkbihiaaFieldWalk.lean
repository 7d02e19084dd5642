import Derived.Test.YtankiipkkbihiaaInverse
namespace Go.Proofs.Ytankiipkkbihiaa
open Go.RowKit

theorem add_v (x y v : Nat) (w : World) (hx : x < 256) (hy : y < 256) (hv : x ^^^ y = v) :
    Calls Try.prog 8 #[.int .u8 (x : Int), .int .u8 (y : Int)] w fun e w' => e = .returned (.int .u8 (v : Int)) ∧ w' = w := by
  subst hv; exact add_any x y w hx hy
theorem inverse_any (P b y : Nat) (w : World) (g : Gf.Good P) (f : IsF P b w) (hy : y < 256) :
    Calls Try.prog 14 #[.pointer (some ⟨b, 0, none⟩), .int .u8 (y : Int)] w fun e w' => e = .returned (.bool true) ∧ Qt w w' := by
  by_cases h0 : y = 0
  · subst h0; exact inverse_zero b w
  · exact inverse_pos P b y w g f h0 hy
theorem div_z (b x y : Nat) (w : World) (h : y = 0) :
    Calls Try.prog 13 #[.pointer (some ⟨b, 0, none⟩), .int .u8 (x : Int), .int .u8 (y : Int)] w fun e w' => e = .returned (.tuple #[.int .u8 0, .int .i64 10]) ∧ Qt w w' := by
  subst h; exact div_zero b x w
theorem i64_and_nat (a b : Nat) (ha : a < 512) (hb : b < 512) : bits .and .i64 (a : Int) (b : Int) = ((a &&& b : Nat) : Int) := by
  have hx : a &&& b < 2 ^ 9 := Nat.and_lt_two_pow _ (by omega)
  have o : ∀ c : Nat, c < 512 → (BitVec.ofInt 64 (c : Int)).toNat = c := fun c hc => by
    rw [BitVec.toNat_ofInt]; simp; omega
  show IntKind.i64.wrap ((BitVec.ofInt 64 (a : Int) &&& BitVec.ofInt 64 (b : Int)).toNat : Int) = _
  rw [BitVec.toNat_and, o a ha, o b hb, IntKind.wrap_i64]
  omega

set_option maxRecDepth 100000 in
set_option maxHeartbeats 800000 in
theorem field_zz (n : Int) (a b c : Nat) (w : World) (hn1 : -9223372036854775808 ≤ n) (hn2 : n ≤ 9223372036854775807) (ha : a < 256) (hb : b < 256) (hc : c < 256) (za : a = 0) (zb : b = 0) :
    Calls Try.prog 5 #[.int .i64 n, .agg #[.int .u8 (a : Int), .int .u8 (b : Int), .int .u8 (c : Int)]] w fun e w' => e = .returned (.bool true) ∧ Below w.heap.size w w' := by
  have ta : ((a : Int) == 0) = true := by simp; omega
  have tb : ((b : Int) == 0) = true := by simp; omega
  have tb' : ((b : Int) != 0) = false := by simp; omega
  have HZA : Hid (a = 0) := za
  have HZB : Hid (b = 0) := zb
  clear za zb
  go_enter Try.func5, Try.ntmps5
  go_wp2_with fail
  refine (field_any n _ hn1 hn2).mono ?_
  rintro e w1 ⟨P, B, g, rfl, f0, hB, hbl⟩
  rw [World.size_alloc] at hB hbl
  have k0 : w1.cell? ⟨w.heap.size, 0, none⟩ = some (.int .u8 (a : Int)) := by rw [hbl.cell (by simp)]; simp
  have k1 : w1.cell? ⟨w.heap.size, 1, none⟩ = some (.int .u8 (b : Int)) := by rw [hbl.cell (by simp)]; simp
  have k2 : w1.cell? ⟨w.heap.size, 2, none⟩ = some (.int .u8 (c : Int)) := by rw [hbl.cell (by simp)]; simp
  have BL : Hid (Below w.heap.size w w1) := ((Below.refl _ _).alloc (Nat.le_refl _) _).trans (hbl.mono (by omega))
  clear hbl hB
  obtain ⟨s, hs⟩ : ∃ s, a ^^^ b = s := ⟨_, rfl⟩
  obtain ⟨u, hu⟩ : ∃ u, b ^^^ c = u := ⟨_, rfl⟩
  obtain ⟨t, ht⟩ : ∃ t, s ^^^ c = t := ⟨_, rfl⟩
  obtain ⟨m, hm⟩ : ∃ m, Gf.mul P a b = m := ⟨_, rfl⟩
  obtain ⟨p, hp⟩ : ∃ p, Gf.mul P b c = p := ⟨_, rfl⟩
  obtain ⟨k, hk⟩ : ∃ k, Gf.mul P a c = k := ⟨_, rfl⟩
  obtain ⟨r, hr⟩ : ∃ r, Gf.mul P m c = r := ⟨_, rfl⟩
  obtain ⟨d, hd⟩ : ∃ d, Gf.mul P a u = d := ⟨_, rfl⟩
  obtain ⟨z, hz⟩ : ∃ z, P &&& 255 = z := ⟨_, rfl⟩
  have ls : s < 256 := hs ▸ Gf.xor_lt a b ha hb
  have lu : u < 256 := hu ▸ Gf.xor_lt b c hb hc
  have lm : m < 256 := hm ▸ g.mul_lt a b
  have lp : p < 256 := hp ▸ g.mul_lt b c
  have lk : k < 256 := hk ▸ g.mul_lt a c
  have lz : z < 256 := by have : P &&& 255 < 2 ^ 8 := Nat.and_lt_two_pow _ (by omega)
                          omega
  have E1 : Hid (a ^^^ b = s) := hs
  have E2 : Hid (b ^^^ a = s) := by show b ^^^ a = s; rw [Nat.xor_comm]; exact hs
  have E3 : Hid (b ^^^ c = u) := hu
  have E4 : Hid (s ^^^ c = t) := ht
  have E5 : Hid (a ^^^ u = t) := by show a ^^^ u = t; rw [← hu, ← Nat.xor_assoc, hs]; exact ht
  have M1 : Hid (Gf.mul P a b = m) := hm
  have M2 : Hid (Gf.mul P b a = m) := by show Gf.mul P b a = m; rw [Gf.mul_comm]; exact hm
  have M3 : Hid (Gf.mul P b c = p) := hp
  have M4 : Hid (Gf.mul P a c = k) := hk
  have M5 : Hid (Gf.mul P m c = r) := hr
  have M6 : Hid (Gf.mul P a p = r) := by show Gf.mul P a p = r; rw [← hp, ← g.mul_assoc, hm]; exact hr
  have M7 : Hid (Gf.mul P a u = d) := hd
  have M8 : Hid (m ^^^ k = d) := by show m ^^^ k = d; rw [← hm, ← hk, ← g.mul_xor a b c hb hc, hu]; exact hd
  have M9 : Hid (Gf.mul P a 1 = a) := g.mul_one a ha
  have M0 : Hid (Gf.mul P a 0 = 0) := Gf.mul_zero P a
  have MZ : Hid (Gf.mul P 2 128 = z) := by show Gf.mul P 2 128 = z; rw [g.two_128]; exact hz
  have tm : ((m : Int) == 0) = true := by
    have := g.mul_eq_zero a b
    have := HZA.out
    have := HZB.out
    rw [hm] at *
    simp; omega
  have az : bits .and .i64 (P : Int) 255 = (z : Int) := by
    have := i64_and_nat P 255 g.hi (by omega)
    rw [hz] at this; exact this
  clear hs hu ht hm hp hk hr hd hz
  go_wp2_with fail
  refine (add_v a b s _ ha hb E1.out).mono ?_
  rintro e wx ⟨rfl, rfl⟩
  go_wp2_with fail
  refine (add_v b a s _ hb ha E2.out).mono ?_
  rintro e wx ⟨rfl, rfl⟩
  go_wp2_with fail
  refine (add_v a b s _ ha hb E1.out).mono ?_
  rintro e wx ⟨rfl, rfl⟩
  go_wp2_with fail
  refine (add_v s c t _ ls hc E4.out).mono ?_
  rintro e wx ⟨rfl, rfl⟩
  go_wp2_with fail
  refine (add_v b c u _ hb hc E3.out).mono ?_
  rintro e wx ⟨rfl, rfl⟩
  go_wp2_with fail
  refine (add_v a u t _ ha lu E5.out).mono ?_
  rintro e wx ⟨rfl, rfl⟩
  go_wp2_with fail
  refine (add_v a 0 a _ ha (by omega) (Nat.xor_zero a)).mono ?_
  rintro e wx ⟨rfl, rfl⟩
  go_wp2_with fail
  refine (add_v a a 0 _ ha ha (Nat.xor_self a)).mono ?_
  rintro e wx ⟨rfl, rfl⟩
  go_wp2_with fail
  refine (mul_v P B a b m _ g f0 ha hb M1.out).mono ?_
  rintro e wq1 ⟨rfl, q1⟩
  have f1 := q1.isF f0
  go_wp2_with fail
  refine (mul_v P B b a m _ g f1 hb ha M2.out).mono ?_
  rintro e wq2 ⟨rfl, q2⟩
  have f2 := q2.isF f1
  go_wp2_with fail
  refine (mul_v P B a b m _ g f2 ha hb M1.out).mono ?_
  rintro e wq3 ⟨rfl, q3⟩
  have f3 := q3.isF f2
  go_wp2_with fail
  refine (mul_v P B m c r _ g f3 lm hc M5.out).mono ?_
  rintro e wq4 ⟨rfl, q4⟩
  have f4 := q4.isF f3
  go_wp2_with fail
  refine (mul_v P B b c p _ g f4 hb hc M3.out).mono ?_
  rintro e wq5 ⟨rfl, q5⟩
  have f5 := q5.isF f4
  go_wp2_with fail
  refine (mul_v P B a p r _ g f5 ha lp M6.out).mono ?_
  rintro e wq6 ⟨rfl, q6⟩
  have f6 := q6.isF f5
  go_wp2_with fail
  refine (mul_v P B a 1 a _ g f6 ha (by omega) M9.out).mono ?_
  rintro e wq7 ⟨rfl, q7⟩
  have f7 := q7.isF f6
  go_wp2_with fail
  refine (mul_v P B a 0 0 _ g f7 ha (by omega) M0.out).mono ?_
  rintro e wq8 ⟨rfl, q8⟩
  have f8 := q8.isF f7
  go_wp2_with fail
  refine (add_v b c u _ hb hc E3.out).mono ?_
  rintro e wx ⟨rfl, rfl⟩
  go_wp2_with fail
  refine (mul_v P B a u d _ g f8 ha lu M7.out).mono ?_
  rintro e wq9 ⟨rfl, q9⟩
  have f9 := q9.isF f8
  go_wp2_with fail
  refine (mul_v P B a b m _ g f9 ha hb M1.out).mono ?_
  rintro e wq10 ⟨rfl, q10⟩
  have f10 := q10.isF f9
  go_wp2_with fail
  refine (mul_v P B a c k _ g f10 ha hc M4.out).mono ?_
  rintro e wq11 ⟨rfl, q11⟩
  have f11 := q11.isF f10
  go_wp2_with fail
  refine (add_v m k d _ lm lk M8.out).mono ?_
  rintro e wx ⟨rfl, rfl⟩
  go_wp2_with fail
  refine (mul_v P B a b m _ g f11 ha hb M1.out).mono ?_
  rintro e wq12 ⟨rfl, q12⟩
  have f12 := q12.isF f11
  go_wp2_with fail
  refine (mul_v P B a b m _ g f12 ha hb M1.out).mono ?_
  rintro e wq13 ⟨rfl, q13⟩
  have f13 := q13.isF f12
  go_wp2_with fail
  refine (div_z B m b _ HZB.out).mono ?_
  rintro e wq14 ⟨rfl, q14⟩
  have f14 := q14.isF f13
  go_wp2_with fail
  refine (inverse_any P B a _ g f14 ha).mono ?_
  rintro e wq15 ⟨rfl, q15⟩
  have f15 := q15.isF f14
  go_wp2_with fail
  refine (inverse_any P B b _ g f15 hb).mono ?_
  rintro e wq16 ⟨rfl, q16⟩
  have f16 := q16.isF f15
  go_wp2_with fail
  refine (mul_v P B 2 128 z _ g f16 (by omega) (by omega) MZ.out).mono ?_
  rintro e wq17 ⟨rfl, q17⟩
  have f17 := q17.isF f16
  go_wp2_with fail
  refine (poly_any P B _ f17).mono ?_
  rintro e wq18 ⟨rfl, q18⟩
  go_wp2_with fail
  go_ret
  exact ⟨rfl, BL.out.trans (Qt.below (q1.trans (q2.trans (q3.trans (q4.trans (q5.trans (q6.trans (q7.trans (q8.trans (q9.trans (q10.trans (q11.trans (q12.trans (q13.trans (q14.trans (q15.trans (q16.trans (q17.trans (q18)))))))))))))))))))⟩

set_option maxRecDepth 100000 in
set_option maxHeartbeats 800000 in
theorem field_zp (n : Int) (a b c : Nat) (w : World) (hn1 : -9223372036854775808 ≤ n) (hn2 : n ≤ 9223372036854775807) (ha : a < 256) (hb : b < 256) (hc : c < 256) (za : a = 0) (zb : b ≠ 0) :
    Calls Try.prog 5 #[.int .i64 n, .agg #[.int .u8 (a : Int), .int .u8 (b : Int), .int .u8 (c : Int)]] w fun e w' => e = .returned (.bool true) ∧ Below w.heap.size w w' := by
  have ta : ((a : Int) == 0) = true := by simp; omega
  have tb : ((b : Int) == 0) = false := by simp; omega
  have tb' : ((b : Int) != 0) = true := by simp; omega
  have HZA : Hid (a = 0) := za
  have HZB : Hid (b ≠ 0) := zb
  clear za zb
  go_enter Try.func5, Try.ntmps5
  go_wp2_with fail
  refine (field_any n _ hn1 hn2).mono ?_
  rintro e w1 ⟨P, B, g, rfl, f0, hB, hbl⟩
  rw [World.size_alloc] at hB hbl
  have k0 : w1.cell? ⟨w.heap.size, 0, none⟩ = some (.int .u8 (a : Int)) := by rw [hbl.cell (by simp)]; simp
  have k1 : w1.cell? ⟨w.heap.size, 1, none⟩ = some (.int .u8 (b : Int)) := by rw [hbl.cell (by simp)]; simp
  have k2 : w1.cell? ⟨w.heap.size, 2, none⟩ = some (.int .u8 (c : Int)) := by rw [hbl.cell (by simp)]; simp
  have BL : Hid (Below w.heap.size w w1) := ((Below.refl _ _).alloc (Nat.le_refl _) _).trans (hbl.mono (by omega))
  clear hbl hB
  obtain ⟨s, hs⟩ : ∃ s, a ^^^ b = s := ⟨_, rfl⟩
  obtain ⟨u, hu⟩ : ∃ u, b ^^^ c = u := ⟨_, rfl⟩
  obtain ⟨t, ht⟩ : ∃ t, s ^^^ c = t := ⟨_, rfl⟩
  obtain ⟨m, hm⟩ : ∃ m, Gf.mul P a b = m := ⟨_, rfl⟩
  obtain ⟨p, hp⟩ : ∃ p, Gf.mul P b c = p := ⟨_, rfl⟩
  obtain ⟨k, hk⟩ : ∃ k, Gf.mul P a c = k := ⟨_, rfl⟩
  obtain ⟨r, hr⟩ : ∃ r, Gf.mul P m c = r := ⟨_, rfl⟩
  obtain ⟨d, hd⟩ : ∃ d, Gf.mul P a u = d := ⟨_, rfl⟩
  obtain ⟨z, hz⟩ : ∃ z, P &&& 255 = z := ⟨_, rfl⟩
  have ls : s < 256 := hs ▸ Gf.xor_lt a b ha hb
  have lu : u < 256 := hu ▸ Gf.xor_lt b c hb hc
  have lm : m < 256 := hm ▸ g.mul_lt a b
  have lp : p < 256 := hp ▸ g.mul_lt b c
  have lk : k < 256 := hk ▸ g.mul_lt a c
  have lz : z < 256 := by have : P &&& 255 < 2 ^ 8 := Nat.and_lt_two_pow _ (by omega)
                          omega
  have E1 : Hid (a ^^^ b = s) := hs
  have E2 : Hid (b ^^^ a = s) := by show b ^^^ a = s; rw [Nat.xor_comm]; exact hs
  have E3 : Hid (b ^^^ c = u) := hu
  have E4 : Hid (s ^^^ c = t) := ht
  have E5 : Hid (a ^^^ u = t) := by show a ^^^ u = t; rw [← hu, ← Nat.xor_assoc, hs]; exact ht
  have M1 : Hid (Gf.mul P a b = m) := hm
  have M2 : Hid (Gf.mul P b a = m) := by show Gf.mul P b a = m; rw [Gf.mul_comm]; exact hm
  have M3 : Hid (Gf.mul P b c = p) := hp
  have M4 : Hid (Gf.mul P a c = k) := hk
  have M5 : Hid (Gf.mul P m c = r) := hr
  have M6 : Hid (Gf.mul P a p = r) := by show Gf.mul P a p = r; rw [← hp, ← g.mul_assoc, hm]; exact hr
  have M7 : Hid (Gf.mul P a u = d) := hd
  have M8 : Hid (m ^^^ k = d) := by show m ^^^ k = d; rw [← hm, ← hk, ← g.mul_xor a b c hb hc, hu]; exact hd
  have M9 : Hid (Gf.mul P a 1 = a) := g.mul_one a ha
  have M0 : Hid (Gf.mul P a 0 = 0) := Gf.mul_zero P a
  have MZ : Hid (Gf.mul P 2 128 = z) := by show Gf.mul P 2 128 = z; rw [g.two_128]; exact hz
  have tm : ((m : Int) == 0) = true := by
    have := g.mul_eq_zero a b
    have := HZA.out
    have := HZB.out
    rw [hm] at *
    simp; omega
  have az : bits .and .i64 (P : Int) 255 = (z : Int) := by
    have := i64_and_nat P 255 g.hi (by omega)
    rw [hz] at this; exact this
  have MD : Hid (Gf.mul P m (Gf.inv P b) = a) := by show Gf.mul P m (Gf.inv P b) = a; rw [← hm]; exact g.div_mul a b ha HZB.out hb
  clear hs hu ht hm hp hk hr hd hz
  go_wp2_with fail
  refine (add_v a b s _ ha hb E1.out).mono ?_
  rintro e wx ⟨rfl, rfl⟩
  go_wp2_with fail
  refine (add_v b a s _ hb ha E2.out).mono ?_
  rintro e wx ⟨rfl, rfl⟩
  go_wp2_with fail
  refine (add_v a b s _ ha hb E1.out).mono ?_
  rintro e wx ⟨rfl, rfl⟩
  go_wp2_with fail
  refine (add_v s c t _ ls hc E4.out).mono ?_
  rintro e wx ⟨rfl, rfl⟩
  go_wp2_with fail
  refine (add_v b c u _ hb hc E3.out).mono ?_
  rintro e wx ⟨rfl, rfl⟩
  go_wp2_with fail
  refine (add_v a u t _ ha lu E5.out).mono ?_
  rintro e wx ⟨rfl, rfl⟩
  go_wp2_with fail
  refine (add_v a 0 a _ ha (by omega) (Nat.xor_zero a)).mono ?_
  rintro e wx ⟨rfl, rfl⟩
  go_wp2_with fail
  refine (add_v a a 0 _ ha ha (Nat.xor_self a)).mono ?_
  rintro e wx ⟨rfl, rfl⟩
  go_wp2_with fail
  refine (mul_v P B a b m _ g f0 ha hb M1.out).mono ?_
  rintro e wq1 ⟨rfl, q1⟩
  have f1 := q1.isF f0
  go_wp2_with fail
  refine (mul_v P B b a m _ g f1 hb ha M2.out).mono ?_
  rintro e wq2 ⟨rfl, q2⟩
  have f2 := q2.isF f1
  go_wp2_with fail
  refine (mul_v P B a b m _ g f2 ha hb M1.out).mono ?_
  rintro e wq3 ⟨rfl, q3⟩
  have f3 := q3.isF f2
  go_wp2_with fail
  refine (mul_v P B m c r _ g f3 lm hc M5.out).mono ?_
  rintro e wq4 ⟨rfl, q4⟩
  have f4 := q4.isF f3
  go_wp2_with fail
  refine (mul_v P B b c p _ g f4 hb hc M3.out).mono ?_
  rintro e wq5 ⟨rfl, q5⟩
  have f5 := q5.isF f4
  go_wp2_with fail
  refine (mul_v P B a p r _ g f5 ha lp M6.out).mono ?_
  rintro e wq6 ⟨rfl, q6⟩
  have f6 := q6.isF f5
  go_wp2_with fail
  refine (mul_v P B a 1 a _ g f6 ha (by omega) M9.out).mono ?_
  rintro e wq7 ⟨rfl, q7⟩
  have f7 := q7.isF f6
  go_wp2_with fail
  refine (mul_v P B a 0 0 _ g f7 ha (by omega) M0.out).mono ?_
  rintro e wq8 ⟨rfl, q8⟩
  have f8 := q8.isF f7
  go_wp2_with fail
  refine (add_v b c u _ hb hc E3.out).mono ?_
  rintro e wx ⟨rfl, rfl⟩
  go_wp2_with fail
  refine (mul_v P B a u d _ g f8 ha lu M7.out).mono ?_
  rintro e wq9 ⟨rfl, q9⟩
  have f9 := q9.isF f8
  go_wp2_with fail
  refine (mul_v P B a b m _ g f9 ha hb M1.out).mono ?_
  rintro e wq10 ⟨rfl, q10⟩
  have f10 := q10.isF f9
  go_wp2_with fail
  refine (mul_v P B a c k _ g f10 ha hc M4.out).mono ?_
  rintro e wq11 ⟨rfl, q11⟩
  have f11 := q11.isF f10
  go_wp2_with fail
  refine (add_v m k d _ lm lk M8.out).mono ?_
  rintro e wx ⟨rfl, rfl⟩
  go_wp2_with fail
  refine (mul_v P B a b m _ g f11 ha hb M1.out).mono ?_
  rintro e wq12 ⟨rfl, q12⟩
  have f12 := q12.isF f11
  go_wp2_with fail
  refine (mul_v P B a b m _ g f12 ha hb M1.out).mono ?_
  rintro e wq13 ⟨rfl, q13⟩
  have f13 := q13.isF f12
  go_wp2_with fail
  refine (div_v P B m b a _ g f13 lm HZB.out hb MD.out).mono ?_
  rintro e wq14 ⟨rfl, q14⟩
  have f14 := q14.isF f13
  go_wp2_with fail
  refine (inverse_any P B a _ g f14 ha).mono ?_
  rintro e wq15 ⟨rfl, q15⟩
  have f15 := q15.isF f14
  go_wp2_with fail
  refine (inverse_any P B b _ g f15 hb).mono ?_
  rintro e wq16 ⟨rfl, q16⟩
  have f16 := q16.isF f15
  go_wp2_with fail
  refine (mul_v P B 2 128 z _ g f16 (by omega) (by omega) MZ.out).mono ?_
  rintro e wq17 ⟨rfl, q17⟩
  have f17 := q17.isF f16
  go_wp2_with fail
  refine (poly_any P B _ f17).mono ?_
  rintro e wq18 ⟨rfl, q18⟩
  go_wp2_with fail
  go_ret
  exact ⟨rfl, BL.out.trans (Qt.below (q1.trans (q2.trans (q3.trans (q4.trans (q5.trans (q6.trans (q7.trans (q8.trans (q9.trans (q10.trans (q11.trans (q12.trans (q13.trans (q14.trans (q15.trans (q16.trans (q17.trans (q18)))))))))))))))))))⟩

set_option maxRecDepth 100000 in
set_option maxHeartbeats 800000 in
theorem field_pz (n : Int) (a b c : Nat) (w : World) (hn1 : -9223372036854775808 ≤ n) (hn2 : n ≤ 9223372036854775807) (ha : a < 256) (hb : b < 256) (hc : c < 256) (za : a ≠ 0) (zb : b = 0) :
    Calls Try.prog 5 #[.int .i64 n, .agg #[.int .u8 (a : Int), .int .u8 (b : Int), .int .u8 (c : Int)]] w fun e w' => e = .returned (.bool true) ∧ Below w.heap.size w w' := by
  have ta : ((a : Int) == 0) = false := by simp; omega
  have tb : ((b : Int) == 0) = true := by simp; omega
  have tb' : ((b : Int) != 0) = false := by simp; omega
  have HZA : Hid (a ≠ 0) := za
  have HZB : Hid (b = 0) := zb
  clear za zb
  go_enter Try.func5, Try.ntmps5
  go_wp2_with fail
  refine (field_any n _ hn1 hn2).mono ?_
  rintro e w1 ⟨P, B, g, rfl, f0, hB, hbl⟩
  rw [World.size_alloc] at hB hbl
  have k0 : w1.cell? ⟨w.heap.size, 0, none⟩ = some (.int .u8 (a : Int)) := by rw [hbl.cell (by simp)]; simp
  have k1 : w1.cell? ⟨w.heap.size, 1, none⟩ = some (.int .u8 (b : Int)) := by rw [hbl.cell (by simp)]; simp
  have k2 : w1.cell? ⟨w.heap.size, 2, none⟩ = some (.int .u8 (c : Int)) := by rw [hbl.cell (by simp)]; simp
  have BL : Hid (Below w.heap.size w w1) := ((Below.refl _ _).alloc (Nat.le_refl _) _).trans (hbl.mono (by omega))
  clear hbl hB
  obtain ⟨s, hs⟩ : ∃ s, a ^^^ b = s := ⟨_, rfl⟩
  obtain ⟨u, hu⟩ : ∃ u, b ^^^ c = u := ⟨_, rfl⟩
  obtain ⟨t, ht⟩ : ∃ t, s ^^^ c = t := ⟨_, rfl⟩
  obtain ⟨m, hm⟩ : ∃ m, Gf.mul P a b = m := ⟨_, rfl⟩
  obtain ⟨p, hp⟩ : ∃ p, Gf.mul P b c = p := ⟨_, rfl⟩
  obtain ⟨k, hk⟩ : ∃ k, Gf.mul P a c = k := ⟨_, rfl⟩
  obtain ⟨r, hr⟩ : ∃ r, Gf.mul P m c = r := ⟨_, rfl⟩
  obtain ⟨d, hd⟩ : ∃ d, Gf.mul P a u = d := ⟨_, rfl⟩
  obtain ⟨z, hz⟩ : ∃ z, P &&& 255 = z := ⟨_, rfl⟩
  have ls : s < 256 := hs ▸ Gf.xor_lt a b ha hb
  have lu : u < 256 := hu ▸ Gf.xor_lt b c hb hc
  have lm : m < 256 := hm ▸ g.mul_lt a b
  have lp : p < 256 := hp ▸ g.mul_lt b c
  have lk : k < 256 := hk ▸ g.mul_lt a c
  have lz : z < 256 := by have : P &&& 255 < 2 ^ 8 := Nat.and_lt_two_pow _ (by omega)
                          omega
  have E1 : Hid (a ^^^ b = s) := hs
  have E2 : Hid (b ^^^ a = s) := by show b ^^^ a = s; rw [Nat.xor_comm]; exact hs
  have E3 : Hid (b ^^^ c = u) := hu
  have E4 : Hid (s ^^^ c = t) := ht
  have E5 : Hid (a ^^^ u = t) := by show a ^^^ u = t; rw [← hu, ← Nat.xor_assoc, hs]; exact ht
  have M1 : Hid (Gf.mul P a b = m) := hm
  have M2 : Hid (Gf.mul P b a = m) := by show Gf.mul P b a = m; rw [Gf.mul_comm]; exact hm
  have M3 : Hid (Gf.mul P b c = p) := hp
  have M4 : Hid (Gf.mul P a c = k) := hk
  have M5 : Hid (Gf.mul P m c = r) := hr
  have M6 : Hid (Gf.mul P a p = r) := by show Gf.mul P a p = r; rw [← hp, ← g.mul_assoc, hm]; exact hr
  have M7 : Hid (Gf.mul P a u = d) := hd
  have M8 : Hid (m ^^^ k = d) := by show m ^^^ k = d; rw [← hm, ← hk, ← g.mul_xor a b c hb hc, hu]; exact hd
  have M9 : Hid (Gf.mul P a 1 = a) := g.mul_one a ha
  have M0 : Hid (Gf.mul P a 0 = 0) := Gf.mul_zero P a
  have MZ : Hid (Gf.mul P 2 128 = z) := by show Gf.mul P 2 128 = z; rw [g.two_128]; exact hz
  have tm : ((m : Int) == 0) = true := by
    have := g.mul_eq_zero a b
    have := HZA.out
    have := HZB.out
    rw [hm] at *
    simp; omega
  have az : bits .and .i64 (P : Int) 255 = (z : Int) := by
    have := i64_and_nat P 255 g.hi (by omega)
    rw [hz] at this; exact this
  clear hs hu ht hm hp hk hr hd hz
  go_wp2_with fail
  refine (add_v a b s _ ha hb E1.out).mono ?_
  rintro e wx ⟨rfl, rfl⟩
  go_wp2_with fail
  refine (add_v b a s _ hb ha E2.out).mono ?_
  rintro e wx ⟨rfl, rfl⟩
  go_wp2_with fail
  refine (add_v a b s _ ha hb E1.out).mono ?_
  rintro e wx ⟨rfl, rfl⟩
  go_wp2_with fail
  refine (add_v s c t _ ls hc E4.out).mono ?_
  rintro e wx ⟨rfl, rfl⟩
  go_wp2_with fail
  refine (add_v b c u _ hb hc E3.out).mono ?_
  rintro e wx ⟨rfl, rfl⟩
  go_wp2_with fail
  refine (add_v a u t _ ha lu E5.out).mono ?_
  rintro e wx ⟨rfl, rfl⟩
  go_wp2_with fail
  refine (add_v a 0 a _ ha (by omega) (Nat.xor_zero a)).mono ?_
  rintro e wx ⟨rfl, rfl⟩
  go_wp2_with fail
  refine (add_v a a 0 _ ha ha (Nat.xor_self a)).mono ?_
  rintro e wx ⟨rfl, rfl⟩
  go_wp2_with fail
  refine (mul_v P B a b m _ g f0 ha hb M1.out).mono ?_
  rintro e wq1 ⟨rfl, q1⟩
  have f1 := q1.isF f0
  go_wp2_with fail
  refine (mul_v P B b a m _ g f1 hb ha M2.out).mono ?_
  rintro e wq2 ⟨rfl, q2⟩
  have f2 := q2.isF f1
  go_wp2_with fail
  refine (mul_v P B a b m _ g f2 ha hb M1.out).mono ?_
  rintro e wq3 ⟨rfl, q3⟩
  have f3 := q3.isF f2
  go_wp2_with fail
  refine (mul_v P B m c r _ g f3 lm hc M5.out).mono ?_
  rintro e wq4 ⟨rfl, q4⟩
  have f4 := q4.isF f3
  go_wp2_with fail
  refine (mul_v P B b c p _ g f4 hb hc M3.out).mono ?_
  rintro e wq5 ⟨rfl, q5⟩
  have f5 := q5.isF f4
  go_wp2_with fail
  refine (mul_v P B a p r _ g f5 ha lp M6.out).mono ?_
  rintro e wq6 ⟨rfl, q6⟩
  have f6 := q6.isF f5
  go_wp2_with fail
  refine (mul_v P B a 1 a _ g f6 ha (by omega) M9.out).mono ?_
  rintro e wq7 ⟨rfl, q7⟩
  have f7 := q7.isF f6
  go_wp2_with fail
  refine (mul_v P B a 0 0 _ g f7 ha (by omega) M0.out).mono ?_
  rintro e wq8 ⟨rfl, q8⟩
  have f8 := q8.isF f7
  go_wp2_with fail
  refine (add_v b c u _ hb hc E3.out).mono ?_
  rintro e wx ⟨rfl, rfl⟩
  go_wp2_with fail
  refine (mul_v P B a u d _ g f8 ha lu M7.out).mono ?_
  rintro e wq9 ⟨rfl, q9⟩
  have f9 := q9.isF f8
  go_wp2_with fail
  refine (mul_v P B a b m _ g f9 ha hb M1.out).mono ?_
  rintro e wq10 ⟨rfl, q10⟩
  have f10 := q10.isF f9
  go_wp2_with fail
  refine (mul_v P B a c k _ g f10 ha hc M4.out).mono ?_
  rintro e wq11 ⟨rfl, q11⟩
  have f11 := q11.isF f10
  go_wp2_with fail
  refine (add_v m k d _ lm lk M8.out).mono ?_
  rintro e wx ⟨rfl, rfl⟩
  go_wp2_with fail
  refine (mul_v P B a b m _ g f11 ha hb M1.out).mono ?_
  rintro e wq12 ⟨rfl, q12⟩
  have f12 := q12.isF f11
  go_wp2_with fail
  refine (mul_v P B a b m _ g f12 ha hb M1.out).mono ?_
  rintro e wq13 ⟨rfl, q13⟩
  have f13 := q13.isF f12
  go_wp2_with fail
  refine (div_z B m b _ HZB.out).mono ?_
  rintro e wq14 ⟨rfl, q14⟩
  have f14 := q14.isF f13
  go_wp2_with fail
  refine (inverse_any P B a _ g f14 ha).mono ?_
  rintro e wq15 ⟨rfl, q15⟩
  have f15 := q15.isF f14
  go_wp2_with fail
  refine (inverse_any P B b _ g f15 hb).mono ?_
  rintro e wq16 ⟨rfl, q16⟩
  have f16 := q16.isF f15
  go_wp2_with fail
  refine (mul_v P B 2 128 z _ g f16 (by omega) (by omega) MZ.out).mono ?_
  rintro e wq17 ⟨rfl, q17⟩
  have f17 := q17.isF f16
  go_wp2_with fail
  refine (poly_any P B _ f17).mono ?_
  rintro e wq18 ⟨rfl, q18⟩
  go_wp2_with fail
  go_ret
  exact ⟨rfl, BL.out.trans (Qt.below (q1.trans (q2.trans (q3.trans (q4.trans (q5.trans (q6.trans (q7.trans (q8.trans (q9.trans (q10.trans (q11.trans (q12.trans (q13.trans (q14.trans (q15.trans (q16.trans (q17.trans (q18)))))))))))))))))))⟩

set_option maxRecDepth 100000 in
set_option maxHeartbeats 800000 in
theorem field_pp (n : Int) (a b c : Nat) (w : World) (hn1 : -9223372036854775808 ≤ n) (hn2 : n ≤ 9223372036854775807) (ha : a < 256) (hb : b < 256) (hc : c < 256) (za : a ≠ 0) (zb : b ≠ 0) :
    Calls Try.prog 5 #[.int .i64 n, .agg #[.int .u8 (a : Int), .int .u8 (b : Int), .int .u8 (c : Int)]] w fun e w' => e = .returned (.bool true) ∧ Below w.heap.size w w' := by
  have ta : ((a : Int) == 0) = false := by simp; omega
  have tb : ((b : Int) == 0) = false := by simp; omega
  have tb' : ((b : Int) != 0) = true := by simp; omega
  have HZA : Hid (a ≠ 0) := za
  have HZB : Hid (b ≠ 0) := zb
  clear za zb
  go_enter Try.func5, Try.ntmps5
  go_wp2_with fail
  refine (field_any n _ hn1 hn2).mono ?_
  rintro e w1 ⟨P, B, g, rfl, f0, hB, hbl⟩
  rw [World.size_alloc] at hB hbl
  have k0 : w1.cell? ⟨w.heap.size, 0, none⟩ = some (.int .u8 (a : Int)) := by rw [hbl.cell (by simp)]; simp
  have k1 : w1.cell? ⟨w.heap.size, 1, none⟩ = some (.int .u8 (b : Int)) := by rw [hbl.cell (by simp)]; simp
  have k2 : w1.cell? ⟨w.heap.size, 2, none⟩ = some (.int .u8 (c : Int)) := by rw [hbl.cell (by simp)]; simp
  have BL : Hid (Below w.heap.size w w1) := ((Below.refl _ _).alloc (Nat.le_refl _) _).trans (hbl.mono (by omega))
  clear hbl hB
  obtain ⟨s, hs⟩ : ∃ s, a ^^^ b = s := ⟨_, rfl⟩
  obtain ⟨u, hu⟩ : ∃ u, b ^^^ c = u := ⟨_, rfl⟩
  obtain ⟨t, ht⟩ : ∃ t, s ^^^ c = t := ⟨_, rfl⟩
  obtain ⟨m, hm⟩ : ∃ m, Gf.mul P a b = m := ⟨_, rfl⟩
  obtain ⟨p, hp⟩ : ∃ p, Gf.mul P b c = p := ⟨_, rfl⟩
  obtain ⟨k, hk⟩ : ∃ k, Gf.mul P a c = k := ⟨_, rfl⟩
  obtain ⟨r, hr⟩ : ∃ r, Gf.mul P m c = r := ⟨_, rfl⟩
  obtain ⟨d, hd⟩ : ∃ d, Gf.mul P a u = d := ⟨_, rfl⟩
  obtain ⟨z, hz⟩ : ∃ z, P &&& 255 = z := ⟨_, rfl⟩
  have ls : s < 256 := hs ▸ Gf.xor_lt a b ha hb
  have lu : u < 256 := hu ▸ Gf.xor_lt b c hb hc
  have lm : m < 256 := hm ▸ g.mul_lt a b
  have lp : p < 256 := hp ▸ g.mul_lt b c
  have lk : k < 256 := hk ▸ g.mul_lt a c
  have lz : z < 256 := by have : P &&& 255 < 2 ^ 8 := Nat.and_lt_two_pow _ (by omega)
                          omega
  have E1 : Hid (a ^^^ b = s) := hs
  have E2 : Hid (b ^^^ a = s) := by show b ^^^ a = s; rw [Nat.xor_comm]; exact hs
  have E3 : Hid (b ^^^ c = u) := hu
  have E4 : Hid (s ^^^ c = t) := ht
  have E5 : Hid (a ^^^ u = t) := by show a ^^^ u = t; rw [← hu, ← Nat.xor_assoc, hs]; exact ht
  have M1 : Hid (Gf.mul P a b = m) := hm
  have M2 : Hid (Gf.mul P b a = m) := by show Gf.mul P b a = m; rw [Gf.mul_comm]; exact hm
  have M3 : Hid (Gf.mul P b c = p) := hp
  have M4 : Hid (Gf.mul P a c = k) := hk
  have M5 : Hid (Gf.mul P m c = r) := hr
  have M6 : Hid (Gf.mul P a p = r) := by show Gf.mul P a p = r; rw [← hp, ← g.mul_assoc, hm]; exact hr
  have M7 : Hid (Gf.mul P a u = d) := hd
  have M8 : Hid (m ^^^ k = d) := by show m ^^^ k = d; rw [← hm, ← hk, ← g.mul_xor a b c hb hc, hu]; exact hd
  have M9 : Hid (Gf.mul P a 1 = a) := g.mul_one a ha
  have M0 : Hid (Gf.mul P a 0 = 0) := Gf.mul_zero P a
  have MZ : Hid (Gf.mul P 2 128 = z) := by show Gf.mul P 2 128 = z; rw [g.two_128]; exact hz
  have tm : ((m : Int) == 0) = false := by
    have := g.mul_eq_zero a b
    have := HZA.out
    have := HZB.out
    rw [hm] at *
    simp; omega
  have az : bits .and .i64 (P : Int) 255 = (z : Int) := by
    have := i64_and_nat P 255 g.hi (by omega)
    rw [hz] at this; exact this
  have MD : Hid (Gf.mul P m (Gf.inv P b) = a) := by show Gf.mul P m (Gf.inv P b) = a; rw [← hm]; exact g.div_mul a b ha HZB.out hb
  clear hs hu ht hm hp hk hr hd hz
  go_wp2_with fail
  refine (add_v a b s _ ha hb E1.out).mono ?_
  rintro e wx ⟨rfl, rfl⟩
  go_wp2_with fail
  refine (add_v b a s _ hb ha E2.out).mono ?_
  rintro e wx ⟨rfl, rfl⟩
  go_wp2_with fail
  refine (add_v a b s _ ha hb E1.out).mono ?_
  rintro e wx ⟨rfl, rfl⟩
  go_wp2_with fail
  refine (add_v s c t _ ls hc E4.out).mono ?_
  rintro e wx ⟨rfl, rfl⟩
  go_wp2_with fail
  refine (add_v b c u _ hb hc E3.out).mono ?_
  rintro e wx ⟨rfl, rfl⟩
  go_wp2_with fail
  refine (add_v a u t _ ha lu E5.out).mono ?_
  rintro e wx ⟨rfl, rfl⟩
  go_wp2_with fail
  refine (add_v a 0 a _ ha (by omega) (Nat.xor_zero a)).mono ?_
  rintro e wx ⟨rfl, rfl⟩
  go_wp2_with fail
  refine (add_v a a 0 _ ha ha (Nat.xor_self a)).mono ?_
  rintro e wx ⟨rfl, rfl⟩
  go_wp2_with fail
  refine (mul_v P B a b m _ g f0 ha hb M1.out).mono ?_
  rintro e wq1 ⟨rfl, q1⟩
  have f1 := q1.isF f0
  go_wp2_with fail
  refine (mul_v P B b a m _ g f1 hb ha M2.out).mono ?_
  rintro e wq2 ⟨rfl, q2⟩
  have f2 := q2.isF f1
  go_wp2_with fail
  refine (mul_v P B a b m _ g f2 ha hb M1.out).mono ?_
  rintro e wq3 ⟨rfl, q3⟩
  have f3 := q3.isF f2
  go_wp2_with fail
  refine (mul_v P B m c r _ g f3 lm hc M5.out).mono ?_
  rintro e wq4 ⟨rfl, q4⟩
  have f4 := q4.isF f3
  go_wp2_with fail
  refine (mul_v P B b c p _ g f4 hb hc M3.out).mono ?_
  rintro e wq5 ⟨rfl, q5⟩
  have f5 := q5.isF f4
  go_wp2_with fail
  refine (mul_v P B a p r _ g f5 ha lp M6.out).mono ?_
  rintro e wq6 ⟨rfl, q6⟩
  have f6 := q6.isF f5
  go_wp2_with fail
  refine (mul_v P B a 1 a _ g f6 ha (by omega) M9.out).mono ?_
  rintro e wq7 ⟨rfl, q7⟩
  have f7 := q7.isF f6
  go_wp2_with fail
  refine (mul_v P B a 0 0 _ g f7 ha (by omega) M0.out).mono ?_
  rintro e wq8 ⟨rfl, q8⟩
  have f8 := q8.isF f7
  go_wp2_with fail
  refine (add_v b c u _ hb hc E3.out).mono ?_
  rintro e wx ⟨rfl, rfl⟩
  go_wp2_with fail
  refine (mul_v P B a u d _ g f8 ha lu M7.out).mono ?_
  rintro e wq9 ⟨rfl, q9⟩
  have f9 := q9.isF f8
  go_wp2_with fail
  refine (mul_v P B a b m _ g f9 ha hb M1.out).mono ?_
  rintro e wq10 ⟨rfl, q10⟩
  have f10 := q10.isF f9
  go_wp2_with fail
  refine (mul_v P B a c k _ g f10 ha hc M4.out).mono ?_
  rintro e wq11 ⟨rfl, q11⟩
  have f11 := q11.isF f10
  go_wp2_with fail
  refine (add_v m k d _ lm lk M8.out).mono ?_
  rintro e wx ⟨rfl, rfl⟩
  go_wp2_with fail
  refine (mul_v P B a b m _ g f11 ha hb M1.out).mono ?_
  rintro e wq12 ⟨rfl, q12⟩
  have f12 := q12.isF f11
  go_wp2_with fail
  refine (mul_v P B a b m _ g f12 ha hb M1.out).mono ?_
  rintro e wq13 ⟨rfl, q13⟩
  have f13 := q13.isF f12
  go_wp2_with fail
  refine (div_v P B m b a _ g f13 lm HZB.out hb MD.out).mono ?_
  rintro e wq14 ⟨rfl, q14⟩
  have f14 := q14.isF f13
  go_wp2_with fail
  refine (inverse_any P B a _ g f14 ha).mono ?_
  rintro e wq15 ⟨rfl, q15⟩
  have f15 := q15.isF f14
  go_wp2_with fail
  refine (inverse_any P B b _ g f15 hb).mono ?_
  rintro e wq16 ⟨rfl, q16⟩
  have f16 := q16.isF f15
  go_wp2_with fail
  refine (mul_v P B 2 128 z _ g f16 (by omega) (by omega) MZ.out).mono ?_
  rintro e wq17 ⟨rfl, q17⟩
  have f17 := q17.isF f16
  go_wp2_with fail
  refine (poly_any P B _ f17).mono ?_
  rintro e wq18 ⟨rfl, q18⟩
  go_wp2_with fail
  go_ret
  exact ⟨rfl, BL.out.trans (Qt.below (q1.trans (q2.trans (q3.trans (q4.trans (q5.trans (q6.trans (q7.trans (q8.trans (q9.trans (q10.trans (q11.trans (q12.trans (q13.trans (q14.trans (q15.trans (q16.trans (q17.trans (q18)))))))))))))))))))⟩
end Go.Proofs.Ytankiipkkbihiaa
