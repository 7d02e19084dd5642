import Derived.Test.YtbangbobfeflcaaGreatDoorHSmall
import Derived.BigQuiet
namespace Go.Proofs.YtbangbobfeflcaaGreatDoor
open Go.RowKit 

set_option maxRecDepth 100000 in
theorem hValue (e : Ev) (hn : e.vn ≤ 9223372036854775807) (w : World) : Calls Tryz.prog 57 #[e.agg] w fun o w' => o = .returned (.bool (valueE e)) ∧ Kept (fun _ => False) w w' := by
  have CF : Hid (∀ V, Calls Tryz.prog 55 #[e.agg] V fun o w' => o = .returned (.int .i64 (formE e)) ∧ Kept (fun _ => False) V w') := fun V => hForm e V
  obtain ⟨v, hv⟩ : ∃ v, v = valueE e := ⟨_, rfl⟩
  obtain ⟨f, hf⟩ : ∃ f, formE e = f := ⟨_, rfl⟩
  have HV : Hid (v = if f = 1 ∨ f = 3 then decide (e.vn ≤ 65536) else decide (e.vn = 0)) := by rw [hv, ← hf]; rfl
  rw [hf] at CF
  rw [← hv]
  clear hv hf
  obtain ⟨ki, cl, op, pu, ke, va, vn, vc, st, tx, ty, vl⟩ := e
  unfold Ev.agg at CF ⊢
  dsimp only at CF HV hn ⊢
  have K0 : Hid (Kept (fun _ => False) w (w.alloc (Obj.cells #[.int .i64 ki, .int .i64 cl, .int .i64 op, .bool pu, .string ke, .slice va vn vc, .int .i64 st, .int .i64 tx, .int .i64 ty] 39))) := (Kept.refl _ _).alloc _
  obtain ⟨t1, e1⟩ : ∃ t, decide ((vn : Int) ≤ 65536) = t := ⟨_, rfl⟩
  obtain ⟨t2, e2⟩ : ∃ t, ((vn : Int) == 0) = t := ⟨_, rfl⟩
  have E1 : Hid (decide (vn ≤ 65536) = t1) := by rw [← e1]; exact decide_eq_decide.2 (by omega)
  have E2 : Hid (decide (vn = 0) = t2) := by
    show decide (vn = 0) = t2
    rw [← e2, Bool.eq_iff_iff]
    simp
  rw [E1.out, E2.out] at HV
  clear E1 E2
  go_enter Tryz.func57, Tryz.ntmps57
  go_wp2_with fail
  refine (CF.out _).mono ?_
  rintro o w1 ⟨rfl, K1⟩
  have bb : w1.heap[w.heap.size]? = some (.cells #[.int .i64 ki, .int .i64 cl, .int .i64 op, .bool pu, .string ke, .slice va vn vc, .int .i64 st, .int .i64 tx, .int .i64 ty] 39 (0, 0)) := K1.get (alloc_new _ _) (fun z => z)
  have d5 := cell_blk bb 5 (v := .slice va vn vc) rfl
  have KE := K0.out.trans K1 (fun _ _ z => z)
  clear K1 bb CF
  by_cases h1 : f = 1
  · subst h1
    have A : v = t1 := by rw [HV.out]; simp
    subst A
    clear HV
    go_wp2_with fail
    go_ret
    exact ⟨by first | rfl | simp, KE⟩
  · have q1 : (f == 1) = false := by simp [h1]
    by_cases h3 : f = 3
    · subst h3
      have A : v = t1 := by rw [HV.out]; simp
      subst A
      clear HV
      go_wp2_with fail
      go_ret
      exact ⟨by first | rfl | simp, KE⟩
    · have q3 : (f == 3) = false := by simp [h3]
      have A : v = t2 := by rw [HV.out]; simp [h1, h3]
      subst A
      clear HV
      go_wp2_with fail
      go_ret
      exact ⟨by first | rfl | simp, KE⟩
set_option maxRecDepth 100000 in
theorem hStatus (e : Ev) (w : World) : Calls Tryz.prog 59 #[e.agg] w fun o w' => o = .returned (.bool (statusE e)) ∧ Kept (fun _ => False) w w' := by
  obtain ⟨v, hv⟩ : ∃ v, v = statusE e := ⟨_, rfl⟩
  have HV : Hid (v = statusE e) := hv
  rw [← hv]
  clear hv
  obtain ⟨ki, cl, op, pu, ke, va, vn, vc, st, tx, ty, vl⟩ := e
  unfold Ev.agg
  unfold statusE at HV
  dsimp only at HV ⊢
  obtain ⟨t1, e1⟩ : ∃ t, decide (20 ≤ st) = t := ⟨_, rfl⟩
  obtain ⟨t2, e2⟩ : ∃ t, decide (st ≤ 26) = t := ⟨_, rfl⟩
  rw [e1, e2] at HV
  go_enter Tryz.func59, Tryz.ntmps59
  by_cases h : st = 0
  · subst h
    have A : v = true := by rw [HV.out]; simp
    subst A
    clear HV
    go_wp2_with fail
    go_ret
    exact ⟨by first | rfl | simp, (Kept.refl _ _).alloc _⟩
  · have q0 : (st == 0) = false := by simp [h]
    by_cases h2 : ki = 2
    · subst h2
      cases pu
      · by_cases h7 : st = 76
        · subst h7
          have A : v = true := by rw [HV.out]; simp
          subst A
          clear HV
          go_wp2_with fail
          go_ret
          exact ⟨by first | rfl | simp, (Kept.refl _ _).alloc _⟩
        · have q7 : (st == 76) = false := by simp [h7]
          cases t1
          · have A : v = false := by rw [HV.out]; simp [h, h7]
            subst A
            clear HV
            go_wp2_with fail
            go_ret
            exact ⟨by first | rfl | simp, (Kept.refl _ _).alloc _⟩
          · have A : v = t2 := by rw [HV.out]; simp [h, h7]
            subst A
            clear HV
            go_wp2_with fail
            go_ret
            exact ⟨by first | rfl | simp, (Kept.refl _ _).alloc _⟩
      · obtain ⟨t4, e4⟩ : ∃ t, (st == 42) = t := ⟨_, rfl⟩
        have A : v = t4 := by
          rw [HV.out, ← e4]
          simp [h]
          rfl
        subst A
        clear HV
        go_wp2_with fail
        go_ret
        exact ⟨by first | rfl | simp, (Kept.refl _ _).alloc _⟩
    · have q2 : (ki == 2) = false := by simp [h2]
      have A : v = false := by rw [HV.out]; simp [h, h2]
      subst A
      clear HV
      go_wp2_with fail
      go_ret
      exact ⟨by first | rfl | simp, (Kept.refl _ _).alloc _⟩
end Go.Proofs.YtbangbobfeflcaaGreatDoor
