import Derived.Test.YtankiipkkbihiaaBase
namespace Go.Proofs.Ytankiipkkbihiaa
open Go.RowKit

set_option maxHeartbeats 400000 in
theorem add_any (a b : Nat) (w : World) (ha : a < 256) (hb : b < 256) :
    Calls Try.prog 8 #[.int .u8 (a : Int), .int .u8 (b : Int)] w fun e w' => e = .returned (.int .u8 ((a ^^^ b : Nat) : Int)) ∧ w' = w := by
  have e := u8_xor_nat a b ha hb
  go_enter Try.func8, Try.ntmps8
  go_wp2
  go_ret
  exact ⟨rfl, rfl⟩

set_option maxHeartbeats 400000 in
theorem dbl_any (P a : Nat) (w : World) (h1 : a < 256) (_h2 : 256 ≤ P) (h3 : P < 512) :
    Calls Try.prog 22 #[.int .i64 (a : Int), .int .i64 (P : Int)] w fun e w' => e = .returned (.int .i64 ((Gf.dbl P a : Nat) : Int)) ∧ w' = w := by
  by_cases h : 255 < a * 2
  · have e : bits .xor .i64 ((a : Int) * 2) (P : Int) = ((Gf.dbl P a : Nat) : Int) := by
      have := i64_xor_nat (a * 2) P (by omega) h3
      rw [Gf.dbl, if_pos h]; simpa using this
    go_enter Try.func22, Try.ntmps22
    go_wp2
    go_ret
    exact ⟨rfl, rfl⟩
  · have e : Hid ((a : Int) * 2 = ((Gf.dbl P a : Nat) : Int)) := by
      show (a : Int) * 2 = ((Gf.dbl P a : Nat) : Int)
      rw [Gf.dbl, if_neg h]; simp
    go_enter Try.func22, Try.ntmps22
    go_wp2
    go_ret
    refine ⟨?_, rfl⟩
    rw [← e.out]; rfl

set_option maxHeartbeats 400000 in
theorem mul_pos (P b x y v : Nat) (w : World) (g : Gf.Good P) (f : IsF P b w) (hx0 : x ≠ 0) (hx : x < 256) (hy0 : y ≠ 0) (hy : y < 256) (hv : Gf.mul P x y = v) :
    Calls Try.prog 10 #[.pointer (some ⟨b, 0, none⟩), .int .u8 (x : Int), .int .u8 (y : Int)] w fun e w' => e = .returned (.int .u8 (v : Int)) ∧ ∃ n, w' = w.drewN n := by
  have c1 := f.lg g x hx0 hx
  have c2 := f.lg g y hy0 hy
  have b1 := g.lg_lt x hx0 hx
  have b2 := g.lg_lt y hy0 hy
  have c3 := f.exp (Gf.lg P x + Gf.lg P y) (by omega)
  have e : Gf.pw P (Gf.lg P x + Gf.lg P y) = v := by rw [← hv, Gf.mul, if_neg (by omega)]
  rw [e] at c3
  clear f hv e
  have t1 : ((x : Int) == 0) = false := by simp; omega
  have t2 : ((y : Int) == 0) = false := by simp; omega
  go_enter Try.func10, Try.ntmps10
  go_wp2
  go_quiet (fail)
  go_wp2
  go_ret
  exact ⟨rfl, _, rfl⟩

set_option maxHeartbeats 400000 in
theorem mul_x0 (b y : Nat) (w : World) :
    Calls Try.prog 10 #[.pointer (some ⟨b, 0, none⟩), .int .u8 ((0 : Nat) : Int), .int .u8 (y : Int)] w fun e w' => e = .returned (.int .u8 ((0 : Nat) : Int)) ∧ ∃ n, w' = w.drewN n := by
  go_enter Try.func10, Try.ntmps10
  go_wp2
  go_ret
  exact ⟨rfl, 0, rfl⟩

set_option maxHeartbeats 400000 in
theorem mul_y0 (b x : Nat) (w : World) (hx0 : x ≠ 0) :
    Calls Try.prog 10 #[.pointer (some ⟨b, 0, none⟩), .int .u8 (x : Int), .int .u8 ((0 : Nat) : Int)] w fun e w' => e = .returned (.int .u8 ((0 : Nat) : Int)) ∧ ∃ n, w' = w.drewN n := by
  have t1 : ((x : Int) == 0) = false := by simp; omega
  go_enter Try.func10, Try.ntmps10
  go_wp2
  go_ret
  exact ⟨rfl, 0, rfl⟩

theorem mul_n (P b x y v : Nat) (w : World) (g : Gf.Good P) (f : IsF P b w) (hx : x < 256) (hy : y < 256) (hv : Gf.mul P x y = v) :
    Calls Try.prog 10 #[.pointer (some ⟨b, 0, none⟩), .int .u8 (x : Int), .int .u8 (y : Int)] w fun e w' => e = .returned (.int .u8 (v : Int)) ∧ ∃ n, w' = w.drewN n := by
  by_cases h0 : x = 0
  · subst h0; rw [Gf.zero_mul] at hv; subst hv; exact mul_x0 b y w
  · by_cases h1 : y = 0
    · subst h1; rw [Gf.mul_zero] at hv; subst hv; exact mul_y0 b x w h0
    · exact mul_pos P b x y v w g f h0 hx h1 hy hv

set_option maxHeartbeats 400000 in
theorem div_pos (P b x y v : Nat) (w : World) (g : Gf.Good P) (f : IsF P b w) (hx : x < 256) (hy0 : y ≠ 0) (hy : y < 256) (hv : Gf.mul P x (Gf.inv P y) = v) :
    Calls Try.prog 13 #[.pointer (some ⟨b, 0, none⟩), .int .u8 (x : Int), .int .u8 (y : Int)] w fun e w' => e = .returned (.tuple #[.int .u8 (v : Int), .int .i64 0]) ∧ ∃ n, w' = w.drewN n := by
  have c1 := f.lg g y hy0 hy
  have b1 := g.lg_lt y hy0 hy
  have c2 := f.exp (255 - Gf.lg P y) (by omega)
  rw [show Gf.pw P (255 - Gf.lg P y) = Gf.inv P y from rfl] at c2
  have M := fun n => mul_n P b x (Gf.inv P y) v (w.drewN n) g (Qt.isF (Qt.drewN w n) f) hx (g.inv_lt y) hv
  have HM : Hid _ := M
  clear M f hv
  have t2 : ((y : Int) == 0) = false := by simp; omega
  go_enter Try.func13, Try.ntmps13
  go_wp2
  go_quiet ((go_at_call 10; exact Calls.quiet_of (HM.out _)))
  go_wp2
  go_ret2
  exact ⟨rfl, _, rfl⟩
/-- The field of P is being made in block B: k rounds are done. -/
structure Mk (P B : Nat) (w0 wr : World) (k : Nat) : Prop where
  below : Below B w0 wr
  size : wr.heap.size = B + 1
  live : ∀ j, j < 767 → ∃ v, wr.cell? ⟨B, j, none⟩ = some v
  soft : ∀ j, wr.frozen? ⟨B, j, none⟩ = false
  poly : wr.cell? ⟨B, 0, none⟩ = some (.int .i64 (P : Int))
  lo : ∀ i, i < k → wr.cell? ⟨B, 1 + i, none⟩ = some (.int .u8 ((Gf.pw P i : Nat) : Int))
  hi : ∀ i, i < k → wr.cell? ⟨B, 1 + (i + 255), none⟩ = some (.int .u8 ((Gf.pw P i : Nat) : Int))
  log : ∀ i, i < k → wr.cell? ⟨B, 511 + Gf.pw P i, none⟩ = some (.int .u8 (i : Int))

theorem cell_set (w : World) (B o : Nat) (x v : Value) (h : w.cell? ⟨B, o, none⟩ = some v) (j : Nat) :
    (w.setCell ⟨B, o, none⟩ x).cell? ⟨B, j, none⟩ = if j = o then some x else w.cell? ⟨B, j, none⟩ := by
  by_cases e : j = o
  · subst e; rw [if_pos rfl]; exact World.cell?_setCell_same _ _ _ h
  · rw [if_neg e]; exact World.cell?_setCell_other _ _ _ _ (fun x => e (by injection x with _ y; exact y.symm))
theorem Mk.put {P B : Nat} {w0 wr : World} {k : Nat} (m : Mk P B w0 wr k) (o : Nat) (ho : o < 767) (x : Value) :
    Below B w0 (wr.setCell ⟨B, o, none⟩ x) ∧ (wr.setCell ⟨B, o, none⟩ x).heap.size = B + 1 ∧ (∀ j, (wr.setCell ⟨B, o, none⟩ x).frozen? ⟨B, j, none⟩ = false) ∧
      ∀ j, (wr.setCell ⟨B, o, none⟩ x).cell? ⟨B, j, none⟩ = if j = o then some x else wr.cell? ⟨B, j, none⟩ := by
  obtain ⟨v, hv⟩ := m.live o ho
  exact ⟨m.below.setCell (Nat.le_refl _) _, by rw [World.size_setCell]; exact m.size, fun j => by rw [World.frozen?_setCell]; exact m.soft j, cell_set wr B o x v hv⟩
theorem some_ite (p : Prop) [Decidable p] (x : Value) (y : Option Value) (h : ∃ v, y = some v) : ∃ v, (if p then some x else y) = some v := by
  by_cases e : p
  · exact ⟨x, if_pos e⟩
  · rw [if_neg e]; exact h
theorem Mk.step {P B : Nat} {w0 wr : World} {k : Nat} (g : Gf.Good P) (m : Mk P B w0 wr k) (hk : k < 255) :
    Mk P B w0 (((wr.setCell ⟨B, 1 + k, none⟩ (.int .u8 ((Gf.pw P k : Nat) : Int))).setCell ⟨B, 1 + (k + 255), none⟩ (.int .u8 ((Gf.pw P k : Nat) : Int))).setCell ⟨B, 511 + Gf.pw P k, none⟩ (.int .u8 (k : Int))) (k + 1) := by
  have bp := g.lt k
  obtain ⟨b1, z1, f1, c1⟩ := m.put (1 + k) (by omega) (.int .u8 ((Gf.pw P k : Nat) : Int))
  generalize wr.setCell ⟨B, 1 + k, none⟩ (.int .u8 ((Gf.pw P k : Nat) : Int)) = w1 at *
  have l1 : ∀ j, j < 767 → ∃ v, w1.cell? ⟨B, j, none⟩ = some v := fun j hj => by rw [c1]; exact some_ite _ _ _ (m.live j hj)
  obtain ⟨v2, h2⟩ := l1 (1 + (k + 255)) (by omega)
  have c2 := cell_set w1 B (1 + (k + 255)) (.int .u8 ((Gf.pw P k : Nat) : Int)) v2 h2
  have b2 := b1.setCell (p := ⟨B, 1 + (k + 255), none⟩) (Nat.le_refl _) (.int .u8 ((Gf.pw P k : Nat) : Int))
  have z2 : (w1.setCell ⟨B, 1 + (k + 255), none⟩ (.int .u8 ((Gf.pw P k : Nat) : Int))).heap.size = B + 1 := by rw [World.size_setCell]; exact z1
  have f2 : ∀ j, (w1.setCell ⟨B, 1 + (k + 255), none⟩ (.int .u8 ((Gf.pw P k : Nat) : Int))).frozen? ⟨B, j, none⟩ = false := fun j => by rw [World.frozen?_setCell]; exact f1 j
  generalize w1.setCell ⟨B, 1 + (k + 255), none⟩ (.int .u8 ((Gf.pw P k : Nat) : Int)) = w2 at *
  have l2 : ∀ j, j < 767 → ∃ v, w2.cell? ⟨B, j, none⟩ = some v := fun j hj => by rw [c2]; exact some_ite _ _ _ (l1 j hj)
  obtain ⟨v3, h3⟩ := l2 (511 + Gf.pw P k) (by omega)
  have c3 := cell_set w2 B (511 + Gf.pw P k) (.int .u8 (k : Int)) v3 h3
  have b3 := b2.setCell (p := ⟨B, 511 + Gf.pw P k, none⟩) (Nat.le_refl _) (.int .u8 (k : Int))
  have z3 : (w2.setCell ⟨B, 511 + Gf.pw P k, none⟩ (.int .u8 (k : Int))).heap.size = B + 1 := by rw [World.size_setCell]; exact z2
  have f3 : ∀ j, (w2.setCell ⟨B, 511 + Gf.pw P k, none⟩ (.int .u8 (k : Int))).frozen? ⟨B, j, none⟩ = false := fun j => by rw [World.frozen?_setCell]; exact f2 j
  generalize w2.setCell ⟨B, 511 + Gf.pw P k, none⟩ (.int .u8 (k : Int)) = w3 at *
  refine ⟨b3, z3, fun j hj => by rw [c3]; exact some_ite _ _ _ (l2 j hj), f3, ?_, fun i hi => ?_, fun i hi => ?_, fun i hi => ?_⟩
  · rw [c3, if_neg (by omega), c2, if_neg (by omega), c1, if_neg (by omega)]; exact m.poly
  · rw [c3, if_neg (by omega), c2, if_neg (by omega), c1]
    by_cases e : i = k
    · subst e; rw [if_pos rfl]
    · rw [if_neg (by omega)]; exact m.lo i (by omega)
  · rw [c3, if_neg (by omega), c2]
    by_cases e : i = k
    · subst e; rw [if_pos rfl]
    · rw [if_neg (by omega), c1, if_neg (by omega)]; exact m.hi i (by omega)
  · rw [c3]
    by_cases e : i = k
    · subst e; rw [if_pos rfl]
    · have ne := g.ne i k (by omega) hk
      have := g.lt i
      rw [if_neg (by omega), c2, if_neg (by omega), c1, if_neg (by omega)]; exact m.log i (by omega)
theorem Mk.start (P : Nat) (w : World) (Z : Array Value) (hZ : Z.size = 767) : Mk P w.heap.size w (w.alloc (.cells (Z.setIfInBounds 0 (.int .i64 (P : Int))) 50)) 0 := by
  refine ⟨(Below.refl _ _).alloc (Nat.le_refl _) _, by simp, fun j hj => ?_, fun j => ?_, ?_, fun i hi => absurd hi (by omega), fun i hi => absurd hi (by omega), fun i hi => absurd hi (by omega)⟩
  · rw [World.cell?_alloc_new]
    exact ⟨_, Array.getElem?_eq_getElem (by simpa [hZ] using hj)⟩
  · rw [World.frozen?_alloc_new]
  · rw [World.cell?_alloc_new]; simp [hZ]
theorem Mk.done {P B : Nat} {w0 wr : World} (g : Gf.Good P) (m : Mk P B w0 wr 255) : IsF P B wr := by
  refine ⟨m.poly, fun i hi => ?_, fun i hi => m.log i hi⟩
  by_cases h : i < 255
  · exact m.lo i h
  · have := m.hi (i - 255) (by omega)
    rw [show i - 255 + 255 = i by omega] at this
    rw [this]
    have p := g.per (i - 255)
    rw [show i - 255 + 255 = i by omega] at p
    rw [p]

set_option maxRecDepth 100000 in
set_option maxHeartbeats 1000000 in
theorem new_good (P : Nat) (w : World) (g : Gf.Good P) :
    Calls Try.prog 19 #[.int .i64 P] w fun e w' => e = .returned (.tuple #[.pointer (some ⟨w.heap.size, 0, none⟩), .int .i64 0]) ∧ IsF P w.heap.size w' ∧ Below w.heap.size w w' := by
  have h2 := g.lo
  have h3 := g.hi
  obtain ⟨Z, hZ, hn, hz⟩ := zf_ex
  go_enter Try.func19, Try.ntmps19
  go_wp2
  clear hz
  go_loopw [5, 16] (fun p i wr => ∃ k : Nat, k ≤ 255 ∧ i = .int .i64 k ∧ p = .int .i64 ((Gf.pw P k : Nat) : Int) ∧ Mk P w.heap.size w wr k) (fun _ i _ => 255 - (intOf i).toNat)
  case atStart => exact ⟨0, by omega, rfl, rfl, Mk.start P w Z hZ⟩
  case round =>
    obtain ⟨k, hk, rfl, rfl, mk⟩ := hrel
    have bp := g.lt k
    by_cases hlt : k < 255
    · obtain ⟨v1, c1⟩ := mk.live (1 + k) (by omega)
      obtain ⟨v2, c2⟩ := mk.live (1 + (k + 255)) (by omega)
      obtain ⟨v3, c3⟩ := mk.live (511 + Gf.pw P k) (by omega)
      have s1 := mk.soft (1 + k)
      have s2 := mk.soft (1 + (k + 255))
      have s3 := mk.soft (511 + Gf.pw P k)
      by_cases hk0 : k = 0
      · have t1 : (((Gf.pw P k : Nat) : Int) == 1) = true := by rw [hk0]; rfl
        have t2 : decide (0 < k) = false := by rw [hk0]; rfl
        have t3 : ¬ 0 < k := by omega
        clear hk0
        go_wp2_with fail
        refine (dbl_any P (Gf.pw P k) _ bp h2 h3).mono ?_
        rintro e w1 ⟨rfl, rfl⟩
        go_wp2_with fail
        go_roundw
        case rel => exact ⟨k + 1, by omega, by go_num, rfl, mk.step g hlt⟩
        case measure => simp [intOf]; omega
      · have t1 : (((Gf.pw P k : Nat) : Int) == 1) = false := by
          have := g.first k (by omega) hlt
          simp; omega
        go_wp2_with fail
        refine (dbl_any P (Gf.pw P k) _ bp h2 h3).mono ?_
        rintro e w1 ⟨rfl, rfl⟩
        go_wp2_with fail
        go_roundw
        case rel => exact ⟨k + 1, by omega, by go_num, rfl, mk.step g hlt⟩
        case measure => simp [intOf]; omega
    · have hk5 : k = 255 := by omega
      have t1 : (((Gf.pw P k : Nat) : Int) != 1) = false := by rw [hk5, g.one]; rfl
      have D : Mk P w.heap.size w wr 255 := hk5 ▸ mk
      clear mk hk5
      go_wp2
      go_ret2
      exact ⟨rfl, D.done g, D.below⟩
theorem polys_get (i : Nat) (h : i < 16) : [Value.int .i64 285, Value.int .i64 299, Value.int .i64 301, Value.int .i64 333, Value.int .i64 351, Value.int .i64 355, Value.int .i64 357, Value.int .i64 361, Value.int .i64 369, Value.int .i64 391, Value.int .i64 397, Value.int .i64 425, Value.int .i64 451, Value.int .i64 463, Value.int .i64 487, Value.int .i64 501][i]'(by simpa using h) = .int .i64 ((Gf.polys.getD i 0 : Nat) : Int) := by
  match i, h with
  | 0, _ => rfl
  | 1, _ => rfl
  | 2, _ => rfl
  | 3, _ => rfl
  | 4, _ => rfl
  | 5, _ => rfl
  | 6, _ => rfl
  | 7, _ => rfl
  | 8, _ => rfl
  | 9, _ => rfl
  | 10, _ => rfl
  | 11, _ => rfl
  | 12, _ => rfl
  | 13, _ => rfl
  | 14, _ => rfl
  | 15, _ => rfl
  | n + 16, h => exact absurd h (by omega)

set_option maxHeartbeats 1000000 in
theorem field_any (n : Int) (w : World) (_h1 : -9223372036854775808 ≤ n) (_h2 : n ≤ 9223372036854775807) :
    Calls Try.prog 7 #[.int .i64 n] w fun e w' => ∃ P b : Nat, Gf.Good P ∧ e = .returned (.pointer (some ⟨b, 0, none⟩)) ∧ IsF P b w' ∧ w.heap.size ≤ b ∧ Below w.heap.size w w' := by
  have t1 := Int.lt_tmod_of_pos n (show (0 : Int) < 16 by omega)
  have t2 := Int.tmod_lt_of_pos n (show (0 : Int) < 16 by omega)
  by_cases hn : n.tmod 16 < 0
  · obtain ⟨i, hi, hi'⟩ : ∃ i : Nat, i < 16 ∧ n.tmod 16 + 16 = (i : Int) := ⟨(n.tmod 16 + 16).toNat, by omega, by omega⟩
    go_enter Try.func7, Try.ntmps7
    go_wp2_with fail
    rw [polys_get i hi]
    have g := Gf.polys_good i hi
    generalize Gf.polys.getD i 0 = P at *
    refine (new_good P _ g).mono ?_
    rintro e w1 ⟨rfl, hf, hb⟩
    rw [World.size_alloc] at hf
    go_wp2_with fail
    go_ret
    exact ⟨P, _, g, rfl, hf, by omega, ((Below.refl _ _).alloc (Nat.le_refl _) _).trans (hb.mono (by simp))⟩
  · obtain ⟨i, hi, hi'⟩ : ∃ i : Nat, i < 16 ∧ n.tmod 16 = (i : Int) := ⟨(n.tmod 16).toNat, by omega, by omega⟩
    rw [hi'] at hn
    go_enter Try.func7, Try.ntmps7
    go_wp2_with fail
    rw [polys_get i hi]
    have g := Gf.polys_good i hi
    generalize Gf.polys.getD i 0 = P at *
    refine (new_good P _ g).mono ?_
    rintro e w1 ⟨rfl, hf, hb⟩
    rw [World.size_alloc] at hf
    go_wp2_with fail
    go_ret
    exact ⟨P, _, g, rfl, hf, by omega, ((Below.refl _ _).alloc (Nat.le_refl _) _).trans (hb.mono (by simp))⟩

theorem mul_v (P b x y v : Nat) (w : World) (g : Gf.Good P) (f : IsF P b w) (hx : x < 256) (hy : y < 256) (hv : Gf.mul P x y = v) :
    Calls Try.prog 10 #[.pointer (some ⟨b, 0, none⟩), .int .u8 (x : Int), .int .u8 (y : Int)] w fun e w' => e = .returned (.int .u8 (v : Int)) ∧ Qt w w' :=
  mul_n P b x y v w g f hx hy hv

set_option maxHeartbeats 400000 in
theorem div_zero (b x : Nat) (w : World) :
    Calls Try.prog 13 #[.pointer (some ⟨b, 0, none⟩), .int .u8 (x : Int), .int .u8 ((0 : Nat) : Int)] w fun e w' => e = .returned (.tuple #[.int .u8 0, .int .i64 10]) ∧ Qt w w' := by
  go_enter Try.func13, Try.ntmps13
  go_wp2
  go_ret2
  exact ⟨rfl, Qt.refl _⟩

theorem div_v (P b x y v : Nat) (w : World) (g : Gf.Good P) (f : IsF P b w) (hx : x < 256) (hy0 : y ≠ 0) (hy : y < 256) (hv : Gf.mul P x (Gf.inv P y) = v) :
    Calls Try.prog 13 #[.pointer (some ⟨b, 0, none⟩), .int .u8 (x : Int), .int .u8 (y : Int)] w fun e w' => e = .returned (.tuple #[.int .u8 (v : Int), .int .i64 0]) ∧ Qt w w' :=
  div_pos P b x y v w g f hx hy0 hy hv

set_option maxHeartbeats 400000 in
theorem inv_zero (b : Nat) (w : World) :
    Calls Try.prog 20 #[.pointer (some ⟨b, 0, none⟩), .int .u8 ((0 : Nat) : Int)] w fun e w' => e = .returned (.tuple #[.int .u8 0, .int .i64 10]) ∧ Qt w w' := by
  go_enter Try.func20, Try.ntmps20
  go_wp2_with fail
  refine (div_zero b 1 _).mono ?_
  rintro e w1 ⟨rfl, q1⟩
  go_wp2_with fail
  go_ret2
  exact ⟨rfl, q1⟩

set_option maxHeartbeats 400000 in
theorem inv_v (P b y v : Nat) (w : World) (g : Gf.Good P) (f : IsF P b w) (hy0 : y ≠ 0) (hy : y < 256) (hv : Gf.inv P y = v) :
    Calls Try.prog 20 #[.pointer (some ⟨b, 0, none⟩), .int .u8 (y : Int)] w fun e w' => e = .returned (.tuple #[.int .u8 (v : Int), .int .i64 0]) ∧ Qt w w' := by
  go_enter Try.func20, Try.ntmps20
  go_wp2_with fail
  refine (div_v P b 1 y v _ g f (by omega) hy0 hy (by rw [g.one_mul _ (g.inv_lt y)]; exact hv)).mono ?_
  rintro e w1 ⟨rfl, q1⟩
  go_wp2_with fail
  go_ret2
  exact ⟨rfl, q1⟩

set_option maxHeartbeats 400000 in
theorem poly_any (P b : Nat) (w : World) (f : IsF P b w) :
    Calls Try.prog 15 #[.pointer (some ⟨b, 0, none⟩)] w fun e w' => e = .returned (.int .i64 (P : Int)) ∧ Qt w w' := by
  have c := f.poly
  clear f
  go_enter Try.func15, Try.ntmps15
  go_wp2
  go_ret
  exact ⟨rfl, Qt.refl _⟩
end Go.Proofs.Ytankiipkkbihiaa
