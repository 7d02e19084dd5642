import Derived.Test.YtankiipkkbihiaaPows
namespace Go.Proofs.Ytankiipkkbihiaa
open Go.RowKit

theorem add_w (x y v : Nat) (w : World) (hx : x < 256) (hy : y < 256) (hv : x ^^^ y = v) :
    Calls Try.prog 8 #[.int .u8 (x : Int), .int .u8 (y : Int)] w fun e w' => e = .returned (.int .u8 (v : Int)) ∧ w' = w := by
  subst hv; exact add_any x y w hx hy
theorem Gf.Good.mul_pw {P : Nat} (g : Gf.Good P) (i j : Nat) : Gf.mul P (Gf.pw P i) (Gf.pw P j) = Gf.pw P (i + j) := by
  have h1 := g.pos i
  have h2 := g.pos j
  rw [Gf.mul, if_neg (by omega), g.lg_pw_mod, g.lg_pw_mod]
  exact g.pw_congr _ _ (by omega)
theorem Gf.Good.sq {P : Nat} (g : Gf.Good P) (a b : Nat) (ha : a < 256) (hb : b < 256) : Gf.mul P a a ^^^ Gf.mul P b b = Gf.mul P (a ^^^ b) (a ^^^ b) := by
  rw [g.mul_xor (a ^^^ b) a b ha hb, Gf.mul_comm P (a ^^^ b) a, Gf.mul_comm P (a ^^^ b) b, g.mul_xor a a b ha hb, g.mul_xor b a b ha hb, Gf.mul_comm P b a]
  have : Gf.mul P a a ^^^ Gf.mul P a b ^^^ (Gf.mul P a b ^^^ Gf.mul P b b) = Gf.mul P a a ^^^ (Gf.mul P a b ^^^ Gf.mul P a b) ^^^ Gf.mul P b b := by ac_rfl
  rw [this, Nat.xor_self, Nat.xor_zero]
theorem mod255 (e : Int) : ∃ k : Nat, e % 255 = (k : Int) := ⟨(e % 255).toNat, by omega⟩
theorem tmod_small (e : Int) : -100000 < e.tmod 100000 ∧ e.tmod 100000 < 100000 :=
  ⟨Int.lt_tmod_of_pos e (by omega), Int.tmod_lt_of_pos e (by omega)⟩
theorem Gf.Good.pow_add {P : Nat} (g : Gf.Good P) (l i j s : Nat) (h : s % 255 = (i + j) % 255) : Gf.mul P (Gf.pw P (l * i)) (Gf.pw P (l * j)) = Gf.pw P (l * s) := by
  rw [g.mul_pw]
  refine g.pw_congr _ _ ?_
  rw [← Nat.mul_add, Nat.mul_mod, ← h, ← Nat.mul_mod]

set_option maxRecDepth 100000 in
set_option maxHeartbeats 1000000 in
theorem powers_z (n e d : Int) (a b c : Nat) (w : World) (hn1 : -9223372036854775808 ≤ n) (hn2 : n ≤ 9223372036854775807) (ha : a < 256) (hb : b < 256) (za : a = 0) :
    Calls Try.prog 6 #[.int .i64 n, .agg #[.int .u8 (a : Int), .int .u8 (b : Int), .int .u8 (c : Int)], .int .i64 e, .int .i64 d] w fun x w' => x = .returned (.bool true) ∧ Below w.heap.size w w' := by
  have ta : ((a : Int) == 0) = true := by simp; omega
  have HZA : Hid (a = 0) := za
  clear za
  obtain ⟨bE1, bE2⟩ := tmod_small e
  obtain ⟨bD1, bD2⟩ := tmod_small d
  obtain ⟨E, hE⟩ : ∃ E, e.tmod 100000 = E := ⟨_, rfl⟩
  obtain ⟨D, hD⟩ : ∃ D, d.tmod 100000 = D := ⟨_, rfl⟩
  rw [hE] at bE1 bE2
  rw [hD] at bD1 bD2
  go_enter Try.func6, Try.ntmps6
  go_wp2_with fail
  refine (field_any n _ hn1 hn2).mono ?_
  rintro x w1 ⟨P, B, g, rfl, f0, hB, hbl⟩
  rw [World.size_alloc] at hB hbl
  have k0 : w1.cell? ⟨w.heap.size, 0, none⟩ = some (.int .u8 (a : Int)) := by rw [hbl.cell (by simp)]; simp
  have k1 : w1.cell? ⟨w.heap.size, 1, none⟩ = some (.int .u8 (b : Int)) := by rw [hbl.cell (by simp)]; simp
  have BL : Hid (Below w.heap.size w w1) := ((Below.refl _ _).alloc (Nat.le_refl _) _).trans (hbl.mono (by omega))
  clear hbl hB
  obtain ⟨s, hs⟩ : ∃ s, a ^^^ b = s := ⟨_, rfl⟩
  obtain ⟨qs, hqs⟩ : ∃ q, Gf.mul P s s = q := ⟨_, rfl⟩
  obtain ⟨qa, hqa⟩ : ∃ q, Gf.mul P a a = q := ⟨_, rfl⟩
  obtain ⟨qb, hqb⟩ : ∃ q, Gf.mul P b b = q := ⟨_, rfl⟩
  obtain ⟨kE, hkE⟩ := mod255 E
  obtain ⟨kD, hkD⟩ := mod255 D
  obtain ⟨kS, hkS⟩ := mod255 (E + D)
  obtain ⟨xE, hxE⟩ : ∃ q, Gf.pw P kE = q := ⟨_, rfl⟩
  obtain ⟨xD, hxD⟩ : ∃ q, Gf.pw P kD = q := ⟨_, rfl⟩
  obtain ⟨xS, hxS⟩ : ∃ q, Gf.pw P kS = q := ⟨_, rfl⟩
  have ls : s < 256 := hs ▸ Gf.xor_lt a b ha hb
  have la : qa < 256 := hqa ▸ g.mul_lt a a
  have lb : qb < 256 := hqb ▸ g.mul_lt b b
  have lE : xE < 256 := hxE ▸ g.lt kE
  have lD : xD < 256 := hxD ▸ g.lt kD
  have E1 : Hid (a ^^^ b = s) := hs
  have M1 : Hid (Gf.mul P s s = qs) := hqs
  have M2 : Hid (Gf.mul P a a = qa) := hqa
  have M3 : Hid (Gf.mul P b b = qb) := hqb
  have M4 : Hid (qa ^^^ qb = qs) := by show qa ^^^ qb = qs; rw [← hqa, ← hqb, g.sq a b ha hb, hs]; exact hqs
  have KE : Hid (E % 255 = (kE : Int)) := hkE
  have KD : Hid (D % 255 = (kD : Int)) := hkD
  have KS : Hid ((E + D) % 255 = (kS : Int)) := hkS
  have KT : Hid ((E + 255) % 255 = (kE : Int)) := by show (E + 255) % 255 = (kE : Int); omega
  have X1 : Hid (Gf.pw P kE = xE) := hxE
  have X2 : Hid (Gf.pw P kD = xD) := hxD
  have X3 : Hid (Gf.pw P kS = xS) := hxS
  have X4 : Hid (Gf.mul P xE xD = xS) := by show Gf.mul P xE xD = xS; rw [← hxE, ← hxD, g.mul_pw, ← hxS]; exact g.pw_congr _ _ (by omega)
  clear hs hqs hqa hqb hkE hkD hkS hxE hxD hxS
  go_wp2_with fail
  refine (add_w a b s _ ha hb E1.out).mono ?_
  rintro e wx ⟨rfl, rfl⟩
  go_wp2_with fail
  refine (mul_v P B s s qs _ g f0 ls ls M1.out).mono ?_
  rintro e wq1 ⟨rfl, q1⟩
  have f1 := q1.isF f0
  go_wp2_with fail
  refine (mul_v P B a a qa _ g f1 ha ha M2.out).mono ?_
  rintro e wq2 ⟨rfl, q2⟩
  have f2 := q2.isF f1
  go_wp2_with fail
  refine (mul_v P B b b qb _ g f2 hb hb M3.out).mono ?_
  rintro e wq3 ⟨rfl, q3⟩
  have f3 := q3.isF f2
  go_wp2_with fail
  refine (add_w qa qb qs _ la lb M4.out).mono ?_
  rintro e wx ⟨rfl, rfl⟩
  go_wp2_with fail
  refine (exp_v P B 0 1 _ _ f3 (by decide) rfl).mono ?_
  rintro e wq4 ⟨rfl, q4⟩
  have f4 := q4.isF f3
  go_wp2_with fail
  refine (exp_v P B 1 2 _ _ f4 (by decide) rfl).mono ?_
  rintro e wq5 ⟨rfl, q5⟩
  have f5 := q5.isF f4
  go_wp2_with fail
  refine (exp_v P B kS xS _ _ f5 KS.out X3.out).mono ?_
  rintro e wq6 ⟨rfl, q6⟩
  have f6 := q6.isF f5
  go_wp2_with fail
  refine (exp_v P B kE xE _ _ f6 KE.out X1.out).mono ?_
  rintro e wq7 ⟨rfl, q7⟩
  have f7 := q7.isF f6
  go_wp2_with fail
  refine (exp_v P B kD xD _ _ f7 KD.out X2.out).mono ?_
  rintro e wq8 ⟨rfl, q8⟩
  have f8 := q8.isF f7
  go_wp2_with fail
  refine (mul_v P B xE xD xS _ g f8 lE lD X4.out).mono ?_
  rintro e wq9 ⟨rfl, q9⟩
  have f9 := q9.isF f8
  go_wp2_with fail
  refine (exp_v P B kE xE _ _ f9 KT.out X1.out).mono ?_
  rintro e wq10 ⟨rfl, q10⟩
  have f10 := q10.isF f9
  go_wp2_with fail
  refine (exp_v P B kE xE _ _ f10 KE.out X1.out).mono ?_
  rintro e wq11 ⟨rfl, q11⟩
  have f11 := q11.isF f10
  go_wp2_with fail
  refine (log_zero B _).mono ?_
  rintro e wq12 ⟨rfl, q12⟩
  have f12 := q12.isF f11
  go_wp2_with fail
  refine (pow_00 B _).mono ?_
  rintro e wq13 ⟨rfl, q13⟩
  have f13 := q13.isF f12
  go_wp2_with fail
  go_ret
  exact ⟨rfl, BL.out.trans (Qt.below (q1.trans (q2.trans (q3.trans (q4.trans (q5.trans (q6.trans (q7.trans (q8.trans (q9.trans (q10.trans (q11.trans (q12.trans (q13))))))))))))))⟩

set_option maxRecDepth 100000 in
set_option maxHeartbeats 1000000 in
theorem powers_pz (n e d : Int) (a b c : Nat) (w : World) (hn1 : -9223372036854775808 ≤ n) (hn2 : n ≤ 9223372036854775807) (ha : a < 256) (hb : b < 256) (za : a ≠ 0) (zb : b = 0) :
    Calls Try.prog 6 #[.int .i64 n, .agg #[.int .u8 (a : Int), .int .u8 (b : Int), .int .u8 (c : Int)], .int .i64 e, .int .i64 d] w fun x w' => x = .returned (.bool true) ∧ Below w.heap.size w w' := by
  have ta : ((a : Int) == 0) = false := by simp; omega
  have tb : ((b : Int) == 0) = true := by simp; omega
  have HZA : Hid (a ≠ 0) := za
  clear za
  have HZB : Hid (b = 0) := zb
  clear zb
  obtain ⟨bE1, bE2⟩ := tmod_small e
  obtain ⟨bD1, bD2⟩ := tmod_small d
  obtain ⟨E, hE⟩ : ∃ E, e.tmod 100000 = E := ⟨_, rfl⟩
  obtain ⟨D, hD⟩ : ∃ D, d.tmod 100000 = D := ⟨_, rfl⟩
  rw [hE] at bE1 bE2
  rw [hD] at bD1 bD2
  go_enter Try.func6, Try.ntmps6
  go_wp2_with fail
  refine (field_any n _ hn1 hn2).mono ?_
  rintro x w1 ⟨P, B, g, rfl, f0, hB, hbl⟩
  rw [World.size_alloc] at hB hbl
  have k0 : w1.cell? ⟨w.heap.size, 0, none⟩ = some (.int .u8 (a : Int)) := by rw [hbl.cell (by simp)]; simp
  have k1 : w1.cell? ⟨w.heap.size, 1, none⟩ = some (.int .u8 (b : Int)) := by rw [hbl.cell (by simp)]; simp
  have BL : Hid (Below w.heap.size w w1) := ((Below.refl _ _).alloc (Nat.le_refl _) _).trans (hbl.mono (by omega))
  clear hbl hB
  obtain ⟨s, hs⟩ : ∃ s, a ^^^ b = s := ⟨_, rfl⟩
  obtain ⟨qs, hqs⟩ : ∃ q, Gf.mul P s s = q := ⟨_, rfl⟩
  obtain ⟨qa, hqa⟩ : ∃ q, Gf.mul P a a = q := ⟨_, rfl⟩
  obtain ⟨qb, hqb⟩ : ∃ q, Gf.mul P b b = q := ⟨_, rfl⟩
  obtain ⟨kE, hkE⟩ := mod255 E
  obtain ⟨kD, hkD⟩ := mod255 D
  obtain ⟨kS, hkS⟩ := mod255 (E + D)
  obtain ⟨xE, hxE⟩ : ∃ q, Gf.pw P kE = q := ⟨_, rfl⟩
  obtain ⟨xD, hxD⟩ : ∃ q, Gf.pw P kD = q := ⟨_, rfl⟩
  obtain ⟨xS, hxS⟩ : ∃ q, Gf.pw P kS = q := ⟨_, rfl⟩
  have ls : s < 256 := hs ▸ Gf.xor_lt a b ha hb
  have la : qa < 256 := hqa ▸ g.mul_lt a a
  have lb : qb < 256 := hqb ▸ g.mul_lt b b
  have lE : xE < 256 := hxE ▸ g.lt kE
  have lD : xD < 256 := hxD ▸ g.lt kD
  have E1 : Hid (a ^^^ b = s) := hs
  have M1 : Hid (Gf.mul P s s = qs) := hqs
  have M2 : Hid (Gf.mul P a a = qa) := hqa
  have M3 : Hid (Gf.mul P b b = qb) := hqb
  have M4 : Hid (qa ^^^ qb = qs) := by show qa ^^^ qb = qs; rw [← hqa, ← hqb, g.sq a b ha hb, hs]; exact hqs
  have KE : Hid (E % 255 = (kE : Int)) := hkE
  have KD : Hid (D % 255 = (kD : Int)) := hkD
  have KS : Hid ((E + D) % 255 = (kS : Int)) := hkS
  have KT : Hid ((E + 255) % 255 = (kE : Int)) := by show (E + 255) % 255 = (kE : Int); omega
  have X1 : Hid (Gf.pw P kE = xE) := hxE
  have X2 : Hid (Gf.pw P kD = xD) := hxD
  have X3 : Hid (Gf.pw P kS = xS) := hxS
  have X4 : Hid (Gf.mul P xE xD = xS) := by show Gf.mul P xE xD = xS; rw [← hxE, ← hxD, g.mul_pw, ← hxS]; exact g.pw_congr _ _ (by omega)
  clear hs hqs hqa hqb hkE hkD hkS hxE hxD hxS
  go_wp2_with fail
  refine (add_w a b s _ ha hb E1.out).mono ?_
  rintro e wx ⟨rfl, rfl⟩
  go_wp2_with fail
  refine (mul_v P B s s qs _ g f0 ls ls M1.out).mono ?_
  rintro e wq1 ⟨rfl, q1⟩
  have f1 := q1.isF f0
  go_wp2_with fail
  refine (mul_v P B a a qa _ g f1 ha ha M2.out).mono ?_
  rintro e wq2 ⟨rfl, q2⟩
  have f2 := q2.isF f1
  go_wp2_with fail
  refine (mul_v P B b b qb _ g f2 hb hb M3.out).mono ?_
  rintro e wq3 ⟨rfl, q3⟩
  have f3 := q3.isF f2
  go_wp2_with fail
  refine (add_w qa qb qs _ la lb M4.out).mono ?_
  rintro e wx ⟨rfl, rfl⟩
  go_wp2_with fail
  refine (exp_v P B 0 1 _ _ f3 (by decide) rfl).mono ?_
  rintro e wq4 ⟨rfl, q4⟩
  have f4 := q4.isF f3
  go_wp2_with fail
  refine (exp_v P B 1 2 _ _ f4 (by decide) rfl).mono ?_
  rintro e wq5 ⟨rfl, q5⟩
  have f5 := q5.isF f4
  go_wp2_with fail
  refine (exp_v P B kS xS _ _ f5 KS.out X3.out).mono ?_
  rintro e wq6 ⟨rfl, q6⟩
  have f6 := q6.isF f5
  go_wp2_with fail
  refine (exp_v P B kE xE _ _ f6 KE.out X1.out).mono ?_
  rintro e wq7 ⟨rfl, q7⟩
  have f7 := q7.isF f6
  go_wp2_with fail
  refine (exp_v P B kD xD _ _ f7 KD.out X2.out).mono ?_
  rintro e wq8 ⟨rfl, q8⟩
  have f8 := q8.isF f7
  go_wp2_with fail
  refine (mul_v P B xE xD xS _ g f8 lE lD X4.out).mono ?_
  rintro e wq9 ⟨rfl, q9⟩
  have f9 := q9.isF f8
  go_wp2_with fail
  refine (exp_v P B kE xE _ _ f9 KT.out X1.out).mono ?_
  rintro e wq10 ⟨rfl, q10⟩
  have f10 := q10.isF f9
  go_wp2_with fail
  refine (exp_v P B kE xE _ _ f10 KE.out X1.out).mono ?_
  rintro e wq11 ⟨rfl, q11⟩
  have f11 := q11.isF f10
  go_wp2_with fail
  refine (log_zero B _).mono ?_
  rintro e wq12 ⟨rfl, q12⟩
  have f12 := q12.isF f11
  go_wp2_with fail
  refine (pow_00 B _).mono ?_
  rintro e wq13 ⟨rfl, q13⟩
  have f13 := q13.isF f12
  go_wp2_with fail
  go_ret
  exact ⟨rfl, BL.out.trans (Qt.below (q1.trans (q2.trans (q3.trans (q4.trans (q5.trans (q6.trans (q7.trans (q8.trans (q9.trans (q10.trans (q11.trans (q12.trans (q13))))))))))))))⟩

set_option maxRecDepth 100000 in
set_option maxHeartbeats 1000000 in
theorem powers_pp (n e d : Int) (a b c : Nat) (w : World) (hn1 : -9223372036854775808 ≤ n) (hn2 : n ≤ 9223372036854775807) (ha : a < 256) (hb : b < 256) (za : a ≠ 0) (zb : b ≠ 0) :
    Calls Try.prog 6 #[.int .i64 n, .agg #[.int .u8 (a : Int), .int .u8 (b : Int), .int .u8 (c : Int)], .int .i64 e, .int .i64 d] w fun x w' => x = .returned (.bool true) ∧ Below w.heap.size w w' := by
  have ta : ((a : Int) == 0) = false := by simp; omega
  have tb : ((b : Int) == 0) = false := by simp; omega
  have HZA : Hid (a ≠ 0) := za
  clear za
  have HZB : Hid (b ≠ 0) := zb
  clear zb
  obtain ⟨bE1, bE2⟩ := tmod_small e
  obtain ⟨bD1, bD2⟩ := tmod_small d
  obtain ⟨E, hE⟩ : ∃ E, e.tmod 100000 = E := ⟨_, rfl⟩
  obtain ⟨D, hD⟩ : ∃ D, d.tmod 100000 = D := ⟨_, rfl⟩
  rw [hE] at bE1 bE2
  rw [hD] at bD1 bD2
  go_enter Try.func6, Try.ntmps6
  go_wp2_with fail
  refine (field_any n _ hn1 hn2).mono ?_
  rintro x w1 ⟨P, B, g, rfl, f0, hB, hbl⟩
  rw [World.size_alloc] at hB hbl
  have k0 : w1.cell? ⟨w.heap.size, 0, none⟩ = some (.int .u8 (a : Int)) := by rw [hbl.cell (by simp)]; simp
  have k1 : w1.cell? ⟨w.heap.size, 1, none⟩ = some (.int .u8 (b : Int)) := by rw [hbl.cell (by simp)]; simp
  have BL : Hid (Below w.heap.size w w1) := ((Below.refl _ _).alloc (Nat.le_refl _) _).trans (hbl.mono (by omega))
  clear hbl hB
  obtain ⟨s, hs⟩ : ∃ s, a ^^^ b = s := ⟨_, rfl⟩
  obtain ⟨qs, hqs⟩ : ∃ q, Gf.mul P s s = q := ⟨_, rfl⟩
  obtain ⟨qa, hqa⟩ : ∃ q, Gf.mul P a a = q := ⟨_, rfl⟩
  obtain ⟨qb, hqb⟩ : ∃ q, Gf.mul P b b = q := ⟨_, rfl⟩
  obtain ⟨kE, hkE⟩ := mod255 E
  obtain ⟨kD, hkD⟩ := mod255 D
  obtain ⟨kS, hkS⟩ := mod255 (E + D)
  obtain ⟨xE, hxE⟩ : ∃ q, Gf.pw P kE = q := ⟨_, rfl⟩
  obtain ⟨xD, hxD⟩ : ∃ q, Gf.pw P kD = q := ⟨_, rfl⟩
  obtain ⟨xS, hxS⟩ : ∃ q, Gf.pw P kS = q := ⟨_, rfl⟩
  have ls : s < 256 := hs ▸ Gf.xor_lt a b ha hb
  have la : qa < 256 := hqa ▸ g.mul_lt a a
  have lb : qb < 256 := hqb ▸ g.mul_lt b b
  have lE : xE < 256 := hxE ▸ g.lt kE
  have lD : xD < 256 := hxD ▸ g.lt kD
  have E1 : Hid (a ^^^ b = s) := hs
  have M1 : Hid (Gf.mul P s s = qs) := hqs
  have M2 : Hid (Gf.mul P a a = qa) := hqa
  have M3 : Hid (Gf.mul P b b = qb) := hqb
  have M4 : Hid (qa ^^^ qb = qs) := by show qa ^^^ qb = qs; rw [← hqa, ← hqb, g.sq a b ha hb, hs]; exact hqs
  have KE : Hid (E % 255 = (kE : Int)) := hkE
  have KD : Hid (D % 255 = (kD : Int)) := hkD
  have KS : Hid ((E + D) % 255 = (kS : Int)) := hkS
  have KT : Hid ((E + 255) % 255 = (kE : Int)) := by show (E + 255) % 255 = (kE : Int); omega
  have X1 : Hid (Gf.pw P kE = xE) := hxE
  have X2 : Hid (Gf.pw P kD = xD) := hxD
  have X3 : Hid (Gf.pw P kS = xS) := hxS
  have X4 : Hid (Gf.mul P xE xD = xS) := by show Gf.mul P xE xD = xS; rw [← hxE, ← hxD, g.mul_pw, ← hxS]; exact g.pw_congr _ _ (by omega)
  obtain ⟨l, hl⟩ : ∃ l, Gf.lg P a = l := ⟨_, rfl⟩
  obtain ⟨r, hr⟩ : ∃ l, Gf.lg P b = l := ⟨_, rfl⟩
  obtain ⟨m, hm⟩ : ∃ m, Gf.mul P a b = m := ⟨_, rfl⟩
  obtain ⟨u, hu⟩ : ∃ u, u = (l + r) % 255 := ⟨_, rfl⟩
  obtain ⟨y1, hy1⟩ : ∃ y, Gf.pw P (Gf.lg P a * kE) = y := ⟨_, rfl⟩
  obtain ⟨y2, hy2⟩ : ∃ y, Gf.pw P (Gf.lg P a * kD) = y := ⟨_, rfl⟩
  obtain ⟨y3, hy3⟩ : ∃ y, Gf.pw P (Gf.lg P a * kS) = y := ⟨_, rfl⟩
  have ly1 : y1 < 256 := hy1 ▸ g.lt _
  have ly2 : y2 < 256 := hy2 ▸ g.lt _
  have lm : m < 256 := hm ▸ g.mul_lt a b
  have ll : l < 255 := hl ▸ g.lg_lt a HZA.out ha
  have lr : r < 255 := hr ▸ g.lg_lt b HZB.out hb
  have lu : u < 255 := by omega
  have L1 : Hid (Gf.lg P a = l) := hl
  have L2 : Hid (Gf.lg P b = r) := hr
  have L3 : Hid (Gf.lg P m = u) := by show Gf.lg P m = u; rw [← hm, g.lg_mul a b HZA.out HZB.out, hl, hr]; exact hu.symm
  have M5 : Hid (Gf.mul P a b = m) := hm
  have NM : Hid (m ≠ 0) := by
    show m ≠ 0
    have := g.mul_eq_zero a b
    have := HZA.out
    have := HZB.out
    rw [← hm]; omega
  have Y1 : Hid (Gf.pw P (Gf.lg P a * kE) = y1) := hy1
  have Y2 : Hid (Gf.pw P (Gf.lg P a * kD) = y2) := hy2
  have Y3 : Hid (Gf.pw P (Gf.lg P a * kS) = y3) := hy3
  have Y4 : Hid (Gf.mul P y1 y2 = y3) := by show Gf.mul P y1 y2 = y3; rw [← hy1, ← hy2, g.pow_add _ kE kD kS (by omega)]; exact hy3
  have Y5 : Hid (Gf.pw P (Gf.lg P a * 0) = 1) := by show Gf.pw P (Gf.lg P a * 0) = 1; rw [Nat.mul_zero]; rfl
  have A1 : Hid (Gf.pw P l = a) := by show Gf.pw P l = a; rw [← hl]; exact g.pw_lg a HZA.out ha
  have A2 : Hid (Gf.pw P r = b) := by show Gf.pw P r = b; rw [← hr]; exact g.pw_lg b HZB.out hb
  have tu : ((l : Int) + (r : Int)) % 255 = (u : Int) := by omega
  have tl : Hid ((l : Int) % 255 = (l : Int)) := by show (l : Int) % 255 = (l : Int); omega
  have tr : Hid ((r : Int) % 255 = (r : Int)) := by show (r : Int) % 255 = (r : Int); omega
  have d1 : decide ((l : Int) < 0) = false := by simp
  have d2 : decide ((254 : Int) < (l : Int)) = false := by simp; omega
  have d3 : decide ((r : Int) < 0) = false := by simp
  have d4 : decide ((254 : Int) < (r : Int)) = false := by simp; omega
  have d5 : decide (254 < l) = false := by simp; omega
  have d6 : decide (254 < r) = false := by simp; omega
  clear hl hr hm hu hy1 hy2 hy3
  clear hs hqs hqa hqb hkE hkD hkS hxE hxD hxS
  go_wp2_with fail
  refine (add_w a b s _ ha hb E1.out).mono ?_
  rintro e wx ⟨rfl, rfl⟩
  go_wp2_with fail
  refine (mul_v P B s s qs _ g f0 ls ls M1.out).mono ?_
  rintro e wq1 ⟨rfl, q1⟩
  have f1 := q1.isF f0
  go_wp2_with fail
  refine (mul_v P B a a qa _ g f1 ha ha M2.out).mono ?_
  rintro e wq2 ⟨rfl, q2⟩
  have f2 := q2.isF f1
  go_wp2_with fail
  refine (mul_v P B b b qb _ g f2 hb hb M3.out).mono ?_
  rintro e wq3 ⟨rfl, q3⟩
  have f3 := q3.isF f2
  go_wp2_with fail
  refine (add_w qa qb qs _ la lb M4.out).mono ?_
  rintro e wx ⟨rfl, rfl⟩
  go_wp2_with fail
  refine (exp_v P B 0 1 _ _ f3 (by decide) rfl).mono ?_
  rintro e wq4 ⟨rfl, q4⟩
  have f4 := q4.isF f3
  go_wp2_with fail
  refine (exp_v P B 1 2 _ _ f4 (by decide) rfl).mono ?_
  rintro e wq5 ⟨rfl, q5⟩
  have f5 := q5.isF f4
  go_wp2_with fail
  refine (exp_v P B kS xS _ _ f5 KS.out X3.out).mono ?_
  rintro e wq6 ⟨rfl, q6⟩
  have f6 := q6.isF f5
  go_wp2_with fail
  refine (exp_v P B kE xE _ _ f6 KE.out X1.out).mono ?_
  rintro e wq7 ⟨rfl, q7⟩
  have f7 := q7.isF f6
  go_wp2_with fail
  refine (exp_v P B kD xD _ _ f7 KD.out X2.out).mono ?_
  rintro e wq8 ⟨rfl, q8⟩
  have f8 := q8.isF f7
  go_wp2_with fail
  refine (mul_v P B xE xD xS _ g f8 lE lD X4.out).mono ?_
  rintro e wq9 ⟨rfl, q9⟩
  have f9 := q9.isF f8
  go_wp2_with fail
  refine (exp_v P B kE xE _ _ f9 KT.out X1.out).mono ?_
  rintro e wq10 ⟨rfl, q10⟩
  have f10 := q10.isF f9
  go_wp2_with fail
  refine (exp_v P B kE xE _ _ f10 KE.out X1.out).mono ?_
  rintro e wq11 ⟨rfl, q11⟩
  have f11 := q11.isF f10
  go_wp2_with fail
  refine (pow_v P B a kE y1 _ _ g f11 HZA.out ha KE.out Y1.out).mono ?_
  rintro e wq12 ⟨rfl, q12⟩
  have f12 := q12.isF f11
  go_wp2_with fail
  refine (pow_v P B a kD y2 _ _ g f12 HZA.out ha KD.out Y2.out).mono ?_
  rintro e wq13 ⟨rfl, q13⟩
  have f13 := q13.isF f12
  go_wp2_with fail
  refine (pow_v P B a kS y3 _ _ g f13 HZA.out ha KS.out Y3.out).mono ?_
  rintro e wq14 ⟨rfl, q14⟩
  have f14 := q14.isF f13
  go_wp2_with fail
  refine (pow_v P B a 0 1 _ _ g f14 HZA.out ha (by decide) Y5.out).mono ?_
  rintro e wq15 ⟨rfl, q15⟩
  have f15 := q15.isF f14
  go_wp2_with fail
  refine (mul_v P B y1 y2 y3 _ g f15 ly1 ly2 Y4.out).mono ?_
  rintro e wq16 ⟨rfl, q16⟩
  have f16 := q16.isF f15
  go_wp2_with fail
  refine (log_v P B a l _ g f16 HZA.out ha L1.out).mono ?_
  rintro e wq17 ⟨rfl, q17⟩
  have f17 := q17.isF f16
  go_wp2_with fail
  refine (log_v P B b r _ g f17 HZB.out hb L2.out).mono ?_
  rintro e wq18 ⟨rfl, q18⟩
  have f18 := q18.isF f17
  go_wp2_with fail
  refine (mul_v P B a b m _ g f18 ha hb M5.out).mono ?_
  rintro e wq19 ⟨rfl, q19⟩
  have f19 := q19.isF f18
  go_wp2_with fail
  refine (log_v P B m u _ g f19 NM.out lm L3.out).mono ?_
  rintro e wq20 ⟨rfl, q20⟩
  have f20 := q20.isF f19
  go_wp2_with fail
  refine (exp_v P B l a _ _ f20 tl.out A1.out).mono ?_
  rintro e wq21 ⟨rfl, q21⟩
  have f21 := q21.isF f20
  go_wp2_with fail
  refine (exp_v P B r b _ _ f21 tr.out A2.out).mono ?_
  rintro e wq22 ⟨rfl, q22⟩
  have f22 := q22.isF f21
  go_wp2_with fail
  go_ret
  exact ⟨rfl, BL.out.trans (Qt.below (q1.trans (q2.trans (q3.trans (q4.trans (q5.trans (q6.trans (q7.trans (q8.trans (q9.trans (q10.trans (q11.trans (q12.trans (q13.trans (q14.trans (q15.trans (q16.trans (q17.trans (q18.trans (q19.trans (q20.trans (q21.trans (q22)))))))))))))))))))))))⟩
end Go.Proofs.Ytankiipkkbihiaa
