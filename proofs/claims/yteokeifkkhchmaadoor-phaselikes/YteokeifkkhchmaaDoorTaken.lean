import Derived.Test.YteokeifkkhchmaaDoorPhS
namespace Go.Proofs.YteokeifkkhchmaaDoor
open Go.RowKit 

def tA : ByteArray := ByteArray.mk #[97]
def tB : ByteArray := ByteArray.mk #[98]
def tC : ByteArray := ByteArray.mk #[99]
def tE : ByteArray := ByteArray.mk #[]
def m0 : Int → Option ByteArray := fun _ => none
def m1 : Int → Option ByteArray := upd m0 2 tA
def m2 : Int → Option ByteArray := upd m1 0 tB
def m3 : Int → Option ByteArray := upd m2 2 tC
def m4 : Int → Option ByteArray := upd m3 3 tE
theorem m4_cnt : cntM m4 4 = 3 := by decide
theorem m4_pick : pick m4 false 4 = [1] := by decide
theorem m4_get : m4 2 = some tC := by decide
set_option maxRecDepth 100000 in
set_option maxHeartbeats 2000000 in
theorem taken (w : World) : Calls Tryd.prog 19 #[] w fun x w' => x = .returned (.bool true) ∧ Kept (fun _ => False) w w' := by
  go_enter Tryd.func19, Tryd.ntmps19
  go_wp2_with fail
  refine (newS_ok 4 2 0 w (by unfold okC; omega)).mono ?_
  rintro e w1 ⟨pb, mb, hp, hm, rfl, i1, k1⟩
  have H1 : Hid (IsP 60 Value.string RS w1 pb mb 4 (quo 4 2) m0 ∧ Kept (fun _ => False) w w1 ∧ w.heap.size ≤ mb) := ⟨i1, k1, hm⟩
  clear i1 k1 hp hm
  go_wp2_with fail
  refine (answerS_in 2 tA w1 H1.out.1 (by omega) (by omega)).mono ?_
  rintro e w2 ⟨rfl, i2, k2⟩
  have H2 : Hid (IsP 60 Value.string RS w2 pb mb 4 (quo 4 2) m1 ∧ Kept (fun _ => False) w w2 ∧ w.heap.size ≤ mb) := ⟨i2, H1.out.2.1.trans k2 (fun j hj z => by have z : j = mb := z; have := H1.out.2.2; omega), H1.out.2.2⟩
  clear i2 k2 H1
  go_wp2_with fail
  refine (answerS_in 0 tB w2 H2.out.1 (by omega) (by omega)).mono ?_
  rintro e w3 ⟨rfl, i3, k3⟩
  have H3 : Hid (IsP 60 Value.string RS w3 pb mb 4 (quo 4 2) m2 ∧ Kept (fun _ => False) w w3 ∧ w.heap.size ≤ mb) := ⟨i3, H2.out.2.1.trans k3 (fun j hj z => by have z : j = mb := z; have := H2.out.2.2; omega), H2.out.2.2⟩
  clear i3 k3 H2
  go_wp2_with fail
  refine (answerS_in 2 tC w3 H3.out.1 (by omega) (by omega)).mono ?_
  rintro e w4 ⟨rfl, i4, k4⟩
  have H4 : Hid (IsP 60 Value.string RS w4 pb mb 4 (quo 4 2) m3 ∧ Kept (fun _ => False) w w4 ∧ w.heap.size ≤ mb) := ⟨i4, H3.out.2.1.trans k4 (fun j hj z => by have z : j = mb := z; have := H3.out.2.2; omega), H3.out.2.2⟩
  have e4 : (!(m2 2).isSome) = false := by decide
  rw [e4]
  clear i4 k4 H3 e4
  go_wp2_with fail
  refine (answerS_in 3 tE w4 H4.out.1 (by omega) (by omega)).mono ?_
  rintro e w5 ⟨rfl, i5, k5⟩
  have H5 : Hid (IsP 60 Value.string RS w5 pb mb 4 (quo 4 2) m4 ∧ Kept (fun _ => False) w w5 ∧ w.heap.size ≤ mb) := ⟨i5, H4.out.2.1.trans k5 (fun j hj z => by have z : j = mb := z; have := H4.out.2.2; omega), H4.out.2.2⟩
  have e5 : (!(m3 3).isSome) = true := by decide
  rw [e5]
  clear i5 k5 H4 e5
  go_wp2_with fail
  refine (getS 2 w5 H5.out.1 (by unfold KF; omega)).mono ?_
  rw [m4_get]
  rintro e w6 ⟨rfl, rfl⟩
  dsimp only [Option.getD, Option.isSome, tC]
  go_wp2_with fail
  refine (metS w6 H5.out.1).mono ?_
  have eT : (4 : Int).toNat = 4 := rfl
  have eQ : decide (quo 4 2 ≤ ((cntM m4 4 : Nat) : Int)) = true := by rw [m4_cnt]; decide
  rw [eT, eQ]
  rintro e w7 ⟨rfl, k, rfl⟩
  have H7 : Hid (IsP 60 Value.string RS (w6.drewN k) pb mb 4 (quo 4 2) m4 ∧ Kept (fun _ => False) w (w6.drewN k)) := ⟨H5.out.1.k0 ((Kept.refl _ _).drewN k), H5.out.2.1.drewN k⟩
  generalize w6.drewN k = w8 at H7 ⊢
  clear H5 eQ
  go_wp2_with fail
  refine (misS w8 H7.out.1).mono ?_
  rw [eT, m4_pick]
  rintro e w9 ⟨q, n, c, rfl, R⟩
  have en : n = 1 := by have := R.out.1.length; simpa [ints] using this.symm
  subst en
  have R9 : Hid (IReads w9 q 1 c [1] ∧ Kept (fun _ => False) w w9) := ⟨R.out.1.ireads, H7.out.2.and0 R.out.2.2⟩
  clear R
  go_wp2_with fail
  refine (sameInts q (some ⟨w9.heap.size, 0, none⟩) 1 c 1 1 [1] [1] _ (R9.out.1.kept (k0_alloc _ _) (fun _ _ _ z => z)) (one_reads 1 (heap_alloc_new _ _))).mono ?_
  rintro e w10 ⟨rfl, k2, rfl⟩
  rw [decide_eq_true rfl]
  go_wp2_with fail
  go_ret
  exact ⟨rfl, (R9.out.2.alloc _).drewN k2⟩
end Go.Proofs.YteokeifkkhchmaaDoor
