import Derived.Test.YtginpoofeliimaaHSmall
import Derived.Test.YtginpoofeliimaaOMath
namespace Go.Proofs.Ytginpoofeliimaa
open Go.RowKit 

theorem rMust (m : Cm) (w : World) : Calls Try.prog 34 #[m.agg] w fun o w' => o = .returned (.bool m.cl.must) ∧ Kept (fun _ => False) w w' := by
  obtain ⟨cl, op, pu, ke, va, vn, vc, st, fr, too, on, tx, ty, vl⟩ := m
  have E : Cl.must (Cm.cl ⟨cl, op, pu, ke, va, vn, vc, st, fr, too, on, tx, ty, vl⟩) = ((pu || (decide (0 ≤ too) && (decide (st = 0) || decide (st = 76)))) && !(pu && on)) := rfl
  rw [E]
  unfold Cm.agg
  dsimp only
  obtain ⟨b2, h2⟩ : ∃ b, (st == 0) = b := ⟨_, rfl⟩
  obtain ⟨b3, h3⟩ : ∃ b, (st == 76) = b := ⟨_, rfl⟩
  have e2 : decide (st = 0) = b2 := h2
  have e3 : decide (st = 76) = b3 := h3
  rw [e2, e3]
  clear E e2 e3
  go_enter Try.func34, Try.ntmps34
  cases pu
  · by_cases h1 : 0 ≤ too
    · cases b2
      · go_wp2_with fail
        go_ret
        exact ⟨by simp [h1], (Kept.refl _ _).alloc _⟩
      · go_wp2_with fail
        go_ret
        exact ⟨by simp [h1], (Kept.refl _ _).alloc _⟩
    · have h1' : decide (0 ≤ too) = false := decide_eq_false h1
      rw [h1']
      go_wp2_with fail
      go_ret
      exact ⟨by simp, (Kept.refl _ _).alloc _⟩
  · go_wp2_with fail
    go_ret
    exact ⟨by simp, (Kept.refl _ _).alloc _⟩
theorem rPart (m : Cm) (w : World) : Calls Try.prog 27 #[m.agg] w fun o w' => o = .returned (.bool m.cl.part) ∧ Kept (fun _ => False) w w' := by
  obtain ⟨mu, hmu⟩ : ∃ mu, m.cl.must = mu := ⟨_, rfl⟩
  obtain ⟨pu, hpu⟩ : ∃ pu, m.put = pu := ⟨_, rfl⟩
  obtain ⟨on, hon⟩ : ∃ on, m.opn = on := ⟨_, rfl⟩
  have EQ : m.cl.part = (mu || (pu && on)) := by
    rw [← hmu, ← hpu, ← hon]
    unfold Cl.must Cl.part Cl.open_ Cm.cl
    dsimp only
    cases m.put <;> cases m.opn <;> simp
  have RM : Hid (∀ V, Calls Try.prog 34 #[m.agg] V fun o w' => o = .returned (.bool mu) ∧ Kept (fun _ => False) V w') := fun V => by rw [← hmu]; exact rMust m V
  rw [EQ]
  have HP : Hid (m.put = pu ∧ m.opn = on) := ⟨hpu, hon⟩
  clear EQ hmu hpu hon
  unfold Cm.agg at RM ⊢
  go_enter Try.func27, Try.ntmps27
  go_wp2_with fail
  refine (RM.out _).mono ?_
  rintro o w1 ⟨rfl, K⟩
  have b1 : w1.heap[w.heap.size]? = some (.cells m.cs 33 (0, 0)) := K.get (alloc_new _ _) (fun z => z)
  have c2 := cell_blk b1 2 (v := .bool m.put) rfl
  have c8 := cell_blk b1 8 (v := .bool m.opn) rfl
  rw [HP.out.1] at c2
  rw [HP.out.2] at c8
  have K1 : Hid (Kept (fun _ => False) w w1) := ((Kept.refl _ _).alloc _).trans K (fun _ _ z => z)
  clear K b1 RM
  cases mu
  · cases pu
    · go_wp2_with fail
      go_ret
      exact ⟨by first | rfl | simp, K1.out⟩
    · go_wp2_with fail
      go_ret
      exact ⟨by first | rfl | simp, K1.out⟩
  · go_wp2_with fail
    go_ret
    exact ⟨by first | rfl | simp, K1.out⟩
theorem rAhead (m d : Cm) (w : World) : Calls Try.prog 41 #[m.agg, d.agg] w fun o w' => o = .returned (.bool (m.cl.ahead d.cl)) ∧ Kept (fun _ => False) w w' := by
  obtain ⟨mu, hmu⟩ : ∃ mu, m.cl.must = mu := ⟨_, rfl⟩
  have EQ : m.cl.ahead d.cl = (mu && decide (0 ≤ m.to) && decide (m.to < d.frm)) := by
    rw [← hmu]
    rfl
  have RM : Hid (∀ V, Calls Try.prog 34 #[m.agg] V fun o w' => o = .returned (.bool mu) ∧ Kept (fun _ => False) V w') := fun V => by rw [← hmu]; exact rMust m V
  rw [EQ]
  clear EQ hmu
  unfold Cm.agg at RM ⊢
  go_enter Try.func41, Try.ntmps41
  go_wp2_with fail
  refine (RM.out _).mono ?_
  rintro o w1 ⟨rfl, K⟩
  have b1 : w1.heap[w.heap.size]? = some (.cells m.cs 33 (0, 0)) := K.get (alloc_old _ (alloc_new _ _)) (fun z => z)
  have b2 : w1.heap[w.heap.size + 1]? = some (.cells d.cs 33 (0, 0)) := K.get (alloc_new2 _ _ _ _) (fun z => z)
  have c7 := cell_blk b1 7 (v := .int .i64 m.to) rfl
  have c6 := cell_blk b2 6 (v := .int .i64 d.frm) rfl
  have K1 : Hid (Kept (fun _ => False) w w1) := (((Kept.refl _ _).alloc _).alloc _).trans K (fun _ _ z => z)
  clear K b1 b2 RM
  cases mu
  · go_wp2_with fail
    go_ret
    exact ⟨by first | rfl | simp, K1.out⟩
  · by_cases h1 : 0 ≤ m.to
    · have h1' : decide (0 ≤ m.to) = true := decide_eq_true h1
      go_wp2_with fail
      go_ret
      exact ⟨by first | rfl | simp [h1], K1.out⟩
    · have h1' : decide (0 ≤ m.to) = false := decide_eq_false h1
      go_wp2_with fail
      go_ret
      exact ⟨by rw [h1']; rfl, K1.out⟩
end Go.Proofs.Ytginpoofeliimaa
