import Derived.Test.YtankiipkkbihiaaCalls
namespace Go.Proofs.Ytankiipkkbihiaa
open Go.RowKit

theorem tmod_emod (e r : Int) (hr : e.tmod 255 = r) : -255 < r ∧ r < 255 ∧ (r < 0 → e % 255 = r + 255) ∧ (0 ≤ r → e % 255 = r) := by
  have t1 := Int.lt_tmod_of_pos e (show (0 : Int) < 255 by omega)
  have t2 := Int.tmod_lt_of_pos e (show (0 : Int) < 255 by omega)
  have t3 := Int.mul_tdiv_add_tmod e 255
  rw [hr] at t1 t2 t3
  refine ⟨by omega, by omega, fun _ => by omega, fun _ => by omega⟩

set_option maxHeartbeats 400000 in
theorem wrap_v (e : Int) (v : Nat) (w : World) (hv : e % 255 = (v : Int)) :
    Calls Try.prog 21 #[.int .i64 e] w fun x w' => x = .returned (.int .i64 (v : Int)) ∧ w' = w := by
  obtain ⟨r, hr⟩ : ∃ r, e.tmod 255 = r := ⟨_, rfl⟩
  obtain ⟨b1, b2, n1, n2⟩ := tmod_emod e r hr
  by_cases h : r < 0
  · have E : Hid (r + 255 = (v : Int)) := by show r + 255 = (v : Int); rw [← n1 h]; exact hv
    clear hv n1 n2
    go_enter Try.func21, Try.ntmps21
    go_wp2
    go_ret
    exact ⟨congrArg (fun z => Ending.returned (.int .i64 z)) E.out, rfl⟩
  · have E : Hid (r = (v : Int)) := by show r = (v : Int); rw [← n2 (by omega)]; exact hv
    clear hv n1 n2
    go_enter Try.func21, Try.ntmps21
    go_wp2
    go_ret
    exact ⟨congrArg (fun z => Ending.returned (.int .i64 z)) E.out, rfl⟩

set_option maxHeartbeats 400000 in
theorem exp_n (P b k v : Nat) (i : Int) (w : World) (f : IsF P b w) (hk : i % 255 = (k : Int)) (hv : Gf.pw P k = v) :
    Calls Try.prog 16 #[.pointer (some ⟨b, 0, none⟩), .int .i64 i] w fun e w' => e = .returned (.int .u8 (v : Int)) ∧ ∃ n, w' = w.drewN n := by
  have lk : k < 255 := by omega
  have c := f.exp k (by omega)
  rw [hv] at c
  have W : Hid (∀ w, Calls Try.prog 21 #[.int .i64 i] w fun x w' => x = .returned (.int .i64 (k : Int)) ∧ w' = w) := fun w => wrap_v i k w hk
  clear hv hk f
  go_enter Try.func16, Try.ntmps16
  go_wp2
  go_quiet ((go_at_call 21; exact Calls.quiet_of_same (W.out _)))
  go_wp2
  go_ret
  exact ⟨rfl, _, rfl⟩

theorem exp_v (P b k v : Nat) (i : Int) (w : World) (f : IsF P b w) (hk : i % 255 = (k : Int)) (hv : Gf.pw P k = v) :
    Calls Try.prog 16 #[.pointer (some ⟨b, 0, none⟩), .int .i64 i] w fun e w' => e = .returned (.int .u8 (v : Int)) ∧ Qt w w' := exp_n P b k v i w f hk hv

set_option maxHeartbeats 400000 in
theorem log_v (P b x v : Nat) (w : World) (g : Gf.Good P) (f : IsF P b w) (hx0 : x ≠ 0) (hx : x < 256) (hv : Gf.lg P x = v) :
    Calls Try.prog 17 #[.pointer (some ⟨b, 0, none⟩), .int .u8 (x : Int)] w fun e w' => e = .returned (.tuple #[.int .i64 (v : Int), .int .i64 0]) ∧ Qt w w' := by
  have c := f.lg g x hx0 hx
  rw [hv] at c
  have lv : v < 255 := hv ▸ g.lg_lt x hx0 hx
  clear hv f
  have t1 : ((x : Int) == 0) = false := by simp; omega
  go_enter Try.func17, Try.ntmps17
  go_wp2
  go_ret2
  exact ⟨rfl, Qt.refl _⟩

set_option maxHeartbeats 400000 in
theorem log_zero (b : Nat) (w : World) :
    Calls Try.prog 17 #[.pointer (some ⟨b, 0, none⟩), .int .u8 0] w fun e w' => e = .returned (.tuple #[.int .i64 0, .int .i64 10]) ∧ Qt w w' := by
  go_enter Try.func17, Try.ntmps17
  go_wp2
  go_ret2
  exact ⟨rfl, Qt.refl _⟩

set_option maxHeartbeats 400000 in
theorem pow_00 (b : Nat) (w : World) :
    Calls Try.prog 18 #[.pointer (some ⟨b, 0, none⟩), .int .u8 0, .int .i64 0] w fun e w' => e = .returned (.tuple #[.int .u8 1, .int .i64 0]) ∧ Qt w w' := by
  go_enter Try.func18, Try.ntmps18
  go_wp2
  go_ret2
  exact ⟨rfl, Qt.refl _⟩

set_option maxHeartbeats 400000 in
theorem pow_v (P b x k v : Nat) (i : Int) (w : World) (g : Gf.Good P) (f : IsF P b w) (hx0 : x ≠ 0) (hx : x < 256) (hk : i % 255 = (k : Int)) (hv : Gf.pw P (Gf.lg P x * k) = v) :
    Calls Try.prog 18 #[.pointer (some ⟨b, 0, none⟩), .int .u8 (x : Int), .int .i64 i] w fun e w' => e = .returned (.tuple #[.int .u8 (v : Int), .int .i64 0]) ∧ Qt w w' := by
  have c := f.lg g x hx0 hx
  have ll := g.lg_lt x hx0 hx
  obtain ⟨l, hl⟩ : ∃ l, Gf.lg P x = l := ⟨_, rfl⟩
  rw [hl] at c ll hv
  have lk : k < 255 := by omega
  have lp : l * k ≤ 254 * 254 := Nat.mul_le_mul (by omega) (by omega)
  have lp1 : (l : Int) * (k : Int) ≤ 64516 := by have : ((l * k : Nat) : Int) ≤ 64516 := by omega
                                                 simpa using this
  have lp0 : 0 ≤ (l : Int) * (k : Int) := Int.mul_nonneg (by omega) (by omega)
  have W : Hid (∀ w, Calls Try.prog 21 #[.int .i64 i] w fun x w' => x = .returned (.int .i64 (k : Int)) ∧ w' = w) := fun w => wrap_v i k w hk
  have X : Hid (∀ n, Calls Try.prog 16 #[.pointer (some ⟨b, 0, none⟩), .int .i64 ((l : Int) * (k : Int))] (w.drewN n) fun e w' => e = .returned (.int .u8 (v : Int)) ∧ ∃ m, w' = (w.drewN n).drewN m) := fun n =>
    exp_n P b ((l * k) % 255) v _ _ (Qt.isF (Qt.drewN w n) f) (by simp) (by rw [g.mod]; exact hv)
  clear hv hk f hl
  have t1 : ((x : Int) != 0) = true := by simp; omega
  go_enter Try.func18, Try.ntmps18
  go_wp2
  go_quiet (first | (go_at_call 21; exact Calls.quiet_of_same (W.out _)) | (go_at_call 16; exact Calls.quiet_of (X.out _)))
  go_wp2
  go_ret2
  exact ⟨rfl, _, rfl⟩
end Go.Proofs.Ytankiipkkbihiaa
