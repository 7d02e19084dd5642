import Derived.Test.YtankiipkkbihiaaCalls
namespace Go.Proofs.Ytankiipkkbihiaa
open Go.RowKit

set_option maxHeartbeats 1000000 in
theorem inverse_zero (b : Nat) (w : World) :
    Calls Try.prog 14 #[.pointer (some ⟨b, 0, none⟩), .int .u8 ((0 : Nat) : Int)] w fun e w' => e = .returned (.bool true) ∧ Qt w w' := by
  go_enter Try.func14, Try.ntmps14
  go_wp2_with fail
  refine (inv_zero b _).mono ?_
  rintro e w1 ⟨rfl, q1⟩
  go_wp2_with fail
  go_ret
  exact ⟨rfl, q1⟩

set_option maxHeartbeats 1000000 in
theorem inverse_pos (P b y : Nat) (w : World) (g : Gf.Good P) (f : IsF P b w) (hy0 : y ≠ 0) (hy : y < 256) :
    Calls Try.prog 14 #[.pointer (some ⟨b, 0, none⟩), .int .u8 (y : Int)] w fun e w' => e = .returned (.bool true) ∧ Qt w w' := by
  obtain ⟨v, hv⟩ : ∃ v, v = Gf.inv P y := ⟨_, rfl⟩
  have v1 : v < 256 := hv ▸ g.inv_lt y
  have v0 : v ≠ 0 := hv ▸ g.inv_ne y
  have HV : Hid (v = Gf.inv P y) := hv
  clear hv
  have t0 : ((y : Int) == 0) = false := by simp; omega
  go_enter Try.func14, Try.ntmps14
  go_wp2_with fail
  refine (inv_v P b y v _ g f hy0 hy HV.out.symm).mono ?_
  rintro e w1 ⟨rfl, q1⟩
  have f1 := q1.isF f
  go_wp2_with fail
  refine (inv_v P b v y _ g f1 v0 v1 (by rw [HV.out]; exact g.inv_inv y hy0 hy)).mono ?_
  rintro e w2 ⟨rfl, q2⟩
  have f2 := q2.isF f1
  go_wp2_with fail
  refine (div_v P b 1 y v _ g f2 (by omega) hy0 hy (by rw [HV.out]; exact g.one_mul _ (g.inv_lt y))).mono ?_
  rintro e w3 ⟨rfl, q3⟩
  have f3 := q3.isF f2
  go_wp2_with fail
  refine (mul_v P b y v 1 _ g f3 hy v1 (by rw [HV.out]; exact g.mul_inv y hy0 hy)).mono ?_
  rintro e w4 ⟨rfl, q4⟩
  go_wp2_with fail
  go_ret
  exact ⟨rfl, q1.trans (q2.trans (q3.trans q4))⟩
end Go.Proofs.Ytankiipkkbihiaa
