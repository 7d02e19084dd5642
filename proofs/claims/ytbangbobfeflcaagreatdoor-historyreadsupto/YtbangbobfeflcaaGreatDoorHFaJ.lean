import Derived.Test.YtbangbobfeflcaaGreatDoorHEvJ
import Derived.BigQuiet
namespace Go.Proofs.YtbangbobfeflcaaGreatDoor
open Go.RowKit 

theorem hZero (a b : Int) (w : World) : Calls Tryz.prog 87 #[.agg #[.int .i64 a, .int .i64 b]] w fun o w' => o = .returned (.bool (kIsZero a b)) ∧ Kept (fun _ => False) w w' := by
  unfold kIsZero
  go_enter Tryz.func87, Tryz.ntmps87
  by_cases h : a = 0
  · by_cases h2 : b = 0
    · go_wp2_with fail
      go_ret
      exact ⟨by simp [h, h2], (Kept.refl _ _).alloc _⟩
    · go_wp2_with fail
      go_ret
      exact ⟨by simp [h, h2], (Kept.refl _ _).alloc _⟩
  · go_wp2_with fail
    go_ret
    exact ⟨by simp [h], (Kept.refl _ _).alloc _⟩
def clientB (n : Int) : Bool := decide (1 ≤ n ∧ n ≤ 65535)
theorem hClient (n : Int) (w : World) : Calls Tryz.prog 135 #[.int .i64 n] w fun x w' => x = .returned (.bool (clientB n)) ∧ Kept (fun _ => False) w w' := by
  obtain ⟨t1, e1⟩ : ∃ t, decide (1 ≤ n) = t := ⟨_, rfl⟩
  obtain ⟨t2, e2⟩ : ∃ t, decide (n ≤ 65535) = t := ⟨_, rfl⟩
  have E : Hid (clientB n = (t1 && t2)) := by
    show clientB n = (t1 && t2)
    unfold clientB
    rw [← e1, ← e2, Bool.eq_iff_iff]
    simp
  rw [E.out]
  clear E
  go_enter Tryz.func135, Tryz.ntmps135
  cases t1
  · go_wp2_with fail
    go_ret
    exact ⟨by first | rfl | simp, Kept.refl _ _⟩
  · cases t2
    · go_wp2_with fail
      go_ret
      exact ⟨by first | rfl | simp, Kept.refl _ _⟩
    · go_wp2_with fail
      go_ret
      exact ⟨by first | rfl | simp, Kept.refl _ _⟩
theorem hProper (a b : Int) (w : World) : Calls Tryz.prog 109 #[.agg #[.int .i64 a, .int .i64 b]] w fun x w' => x = .returned (.bool (kIsProper a b)) ∧ Kept (fun _ => False) w w' := by
  have K : Hid (Kept (fun _ => False) w (w.alloc (Obj.cells #[.int .i64 a, .int .i64 b] 37))) := (Kept.refl _ _).alloc _
  have C : Hid (∀ V, Calls Tryz.prog 135 #[.int .i64 b] V fun x w' => x = .returned (.bool (clientB b)) ∧ Kept (fun _ => False) V w') := fun V => hClient b V
  obtain ⟨t1, e1⟩ : ∃ t, decide (1 ≤ a) = t := ⟨_, rfl⟩
  obtain ⟨t2, e2⟩ : ∃ t, decide (a ≤ 4611686018427387903) = t := ⟨_, rfl⟩
  have E : Hid (kIsProper a b = (t1 && t2 && clientB b)) := by
    show kIsProper a b = _
    unfold kIsProper clientB
    rw [← e1, ← e2, Bool.eq_iff_iff]
    simp [and_assoc]
  rw [E.out]
  obtain ⟨cb, hcb⟩ : ∃ cb, clientB b = cb := ⟨_, rfl⟩
  rw [hcb] at C ⊢
  clear hcb E
  go_enter Tryz.func109, Tryz.ntmps109
  cases t1
  · go_wp2_with fail
    go_ret
    exact ⟨by first | rfl | simp, K.out⟩
  · cases t2
    · go_wp2_with fail
      go_ret
      exact ⟨by first | rfl | simp, K.out⟩
    · go_wp2_with fail
      refine (C.out _).mono ?_
      rintro o w1 ⟨rfl, K1⟩
      have KE := K.out.trans K1 (fun _ _ z => z)
      clear K1
      go_wp2_with fail
      go_ret
      exact ⟨by first | rfl | simp, KE⟩
theorem hValid (a b : Int) (w : World) : Calls Tryz.prog 88 #[.agg #[.int .i64 a, .int .i64 b]] w fun x w' => x = .returned (.bool (kIsZero a b || kIsProper a b)) ∧ Kept (fun _ => False) w w' := by
  have K : Hid (Kept (fun _ => False) w (w.alloc (Obj.cells #[.int .i64 a, .int .i64 b] 37))) := (Kept.refl _ _).alloc _
  have CZ : Hid (∀ V, Calls Tryz.prog 87 #[.agg #[.int .i64 a, .int .i64 b]] V fun x w' => x = .returned (.bool (kIsZero a b)) ∧ Kept (fun _ => False) V w') := fun V => hZero a b V
  have CP : Hid (∀ V, Calls Tryz.prog 109 #[.agg #[.int .i64 a, .int .i64 b]] V fun x w' => x = .returned (.bool (kIsProper a b)) ∧ Kept (fun _ => False) V w') := fun V => hProper a b V
  obtain ⟨zb, hz⟩ : ∃ zb, kIsZero a b = zb := ⟨_, rfl⟩
  obtain ⟨pb, hp⟩ : ∃ pb, kIsProper a b = pb := ⟨_, rfl⟩
  rw [hz] at CZ ⊢
  rw [hp] at CP ⊢
  clear hz hp
  go_enter Tryz.func88, Tryz.ntmps88
  go_wp2_with fail
  refine (CZ.out _).mono ?_
  rintro o w1 ⟨rfl, K1⟩
  have c0 : w1.cell? ⟨w.heap.size, 0, none⟩ = some (.int .i64 a) := K1.cell (by simp) (fun z => z)
  have c1 : w1.cell? ⟨w.heap.size, 1, none⟩ = some (.int .i64 b) := K1.cell (by simp) (fun z => z)
  have KE := K.out.trans K1 (fun _ _ z => z)
  clear K1
  cases zb
  · go_wp2_with fail
    refine (CP.out _).mono ?_
    rintro o w2 ⟨rfl, K2⟩
    have KF := KE.trans K2 (fun _ _ z => z)
    clear K2
    go_wp2_with fail
    go_ret
    exact ⟨by first | rfl | simp, KF⟩
  · go_wp2_with fail
    go_ret
    exact ⟨by first | rfl | simp, KE⟩
set_option maxRecDepth 100000 in
theorem hFormR (e : Ev) (w : World) : Calls Tryz.prog 85 #[e.agg] w fun o w' => o = .returned (.int .i64 (formR e.st e.put)) ∧ Kept (fun _ => False) w w' := by
  obtain ⟨ki, cl, op, pu, ke, va, vn, vc, st, tx, ty, vl⟩ := e
  unfold Ev.agg
  dsimp only
  obtain ⟨v, hv⟩ : ∃ v, v = formR st pu := ⟨_, rfl⟩
  have HV : Hid (v = formR st pu) := hv
  unfold formR at HV
  rw [← hv]
  clear hv
  go_enter Tryz.func85, Tryz.ntmps85
  by_cases h : st = 0
  · subst h
    cases pu
    · have A : v = 3 := by rw [HV.out]; simp
      subst A
      clear HV
      go_wp2_with fail
      go_ret
      exact ⟨by first | rfl | simp, (Kept.refl _ _).alloc _⟩
    · have A : v = 2 := by rw [HV.out]; simp
      subst A
      clear HV
      go_wp2_with fail
      go_ret
      exact ⟨by first | rfl | simp, (Kept.refl _ _).alloc _⟩
  · have q0 : (st == 0) = false := by simp [h]
    by_cases h1 : st = 76
    · subst h1
      have A : v = 0 := by rw [HV.out]; simp
      subst A
      clear HV
      go_wp2_with fail
      go_ret
      exact ⟨by first | rfl | simp, (Kept.refl _ _).alloc _⟩
    · have q1 : (st == 76) = false := by simp [h1]
      by_cases h2 : st = 42
      · subst h2
        have A : v = 0 := by rw [HV.out]; simp
        subst A
        clear HV
        go_wp2_with fail
        go_ret
        exact ⟨by first | rfl | simp, (Kept.refl _ _).alloc _⟩
      · have q2 : (st == 42) = false := by simp [h2]
        have A : v = 4 := by rw [HV.out]; simp [h, h1, h2]
        subst A
        clear HV
        go_wp2_with fail
        go_ret
        exact ⟨by first | rfl | simp, (Kept.refl _ _).alloc _⟩
set_option maxRecDepth 100000 in
theorem hForm (e : Ev) (w : World) : Calls Tryz.prog 55 #[e.agg] w fun o w' => o = .returned (.int .i64 (formE e)) ∧ Kept (fun _ => False) w w' := by
  have CR : Hid (∀ V, Calls Tryz.prog 85 #[e.agg] V fun o w' => o = .returned (.int .i64 (formR e.st e.put)) ∧ Kept (fun _ => False) V w') := fun V => hFormR e V
  obtain ⟨v, hv⟩ : ∃ v, v = formE e := ⟨_, rfl⟩
  have HV : Hid (v = formE e) := hv
  rw [← hv]
  clear hv
  obtain ⟨ki, cl, op, pu, ke, va, vn, vc, st, tx, ty, vl⟩ := e
  unfold Ev.agg at CR ⊢
  unfold formE at HV
  dsimp only at CR HV ⊢
  obtain ⟨fr, hfr⟩ : ∃ fr, formR st pu = fr := ⟨_, rfl⟩
  rw [hfr] at CR HV
  clear hfr
  go_enter Tryz.func55, Tryz.ntmps55
  by_cases h : ki = 1
  · subst h
    cases pu
    · have A : v = 0 := by rw [HV.out]; simp
      subst A
      clear HV
      go_wp2_with fail
      go_ret
      exact ⟨by first | rfl | simp, (Kept.refl _ _).alloc _⟩
    · have A : v = 1 := by rw [HV.out]; simp
      subst A
      clear HV
      go_wp2_with fail
      go_ret
      exact ⟨by first | rfl | simp, (Kept.refl _ _).alloc _⟩
  · have q0 : (ki == 1) = false := by simp [h]
    by_cases h1 : ki = 3
    · subst h1
      cases pu
      · have A : v = 0 := by rw [HV.out]; simp
        subst A
        clear HV
        go_wp2_with fail
        go_ret
        exact ⟨by first | rfl | simp, (Kept.refl _ _).alloc _⟩
      · have A : v = 2 := by rw [HV.out]; simp
        subst A
        clear HV
        go_wp2_with fail
        go_ret
        exact ⟨by first | rfl | simp, (Kept.refl _ _).alloc _⟩
    · have q1 : (ki == 3) = false := by simp [h1]
      by_cases h2 : ki = 2
      · subst h2
        have A : v = fr := by rw [HV.out]; simp
        subst A
        clear HV
        have K : Hid (Kept (fun _ => False) w (w.alloc (Obj.cells #[.int .i64 2, .int .i64 cl, .int .i64 op, .bool pu, .string ke, .slice va vn vc, .int .i64 st, .int .i64 tx, .int .i64 ty] 39))) := (Kept.refl _ _).alloc _
        go_wp2_with fail
        refine (CR.out _).mono ?_
        rintro o w1 ⟨rfl, K1⟩
        have KE := K.out.trans K1 (fun _ _ z => z)
        clear K1
        go_wp2_with fail
        go_ret
        exact ⟨by first | rfl | simp, KE⟩
      · have q2 : (ki == 2) = false := by simp [h2]
        have A : v = 0 := by rw [HV.out]; simp [h, h1, h2]
        subst A
        clear HV
        go_wp2_with fail
        go_ret
        exact ⟨by first | rfl | simp, (Kept.refl _ _).alloc _⟩
end Go.Proofs.YtbangbobfeflcaaGreatDoor

namespace Go.Proofs.YtbangbobfeflcaaGreatDoor
open Go.RowKit 

set_option maxRecDepth 100000 in
theorem hValue (e : Ev) (hn : e.vn ≤ 9223372036854775807) (w : World) : Calls Tryz.prog 57 #[e.agg] w fun o w' => o = .returned (.bool (valueE e)) ∧ Kept (fun _ => False) w w' := by
  have CF : Hid (∀ V, Calls Tryz.prog 55 #[e.agg] V fun o w' => o = .returned (.int .i64 (formE e)) ∧ Kept (fun _ => False) V w') := fun V => hForm e V
  obtain ⟨v, hv⟩ : ∃ v, v = valueE e := ⟨_, rfl⟩
  obtain ⟨f, hf⟩ : ∃ f, formE e = f := ⟨_, rfl⟩
  have HV : Hid (v = if f = 1 ∨ f = 3 then decide (e.vn ≤ 65536) else decide (e.vn = 0)) := by rw [hv, ← hf]; rfl
  rw [hf] at CF
  rw [← hv]
  clear hv hf
  obtain ⟨ki, cl, op, pu, ke, va, vn, vc, st, tx, ty, vl⟩ := e
  unfold Ev.agg at CF ⊢
  dsimp only at CF HV hn ⊢
  have K0 : Hid (Kept (fun _ => False) w (w.alloc (Obj.cells #[.int .i64 ki, .int .i64 cl, .int .i64 op, .bool pu, .string ke, .slice va vn vc, .int .i64 st, .int .i64 tx, .int .i64 ty] 39))) := (Kept.refl _ _).alloc _
  obtain ⟨t1, e1⟩ : ∃ t, decide ((vn : Int) ≤ 65536) = t := ⟨_, rfl⟩
  obtain ⟨t2, e2⟩ : ∃ t, ((vn : Int) == 0) = t := ⟨_, rfl⟩
  have E1 : Hid (decide (vn ≤ 65536) = t1) := by rw [← e1]; exact decide_eq_decide.2 (by omega)
  have E2 : Hid (decide (vn = 0) = t2) := by
    show decide (vn = 0) = t2
    rw [← e2, Bool.eq_iff_iff]
    simp
  rw [E1.out, E2.out] at HV
  clear E1 E2
  go_enter Tryz.func57, Tryz.ntmps57
  go_wp2_with fail
  refine (CF.out _).mono ?_
  rintro o w1 ⟨rfl, K1⟩
  have bb : w1.heap[w.heap.size]? = some (.cells #[.int .i64 ki, .int .i64 cl, .int .i64 op, .bool pu, .string ke, .slice va vn vc, .int .i64 st, .int .i64 tx, .int .i64 ty] 39 (0, 0)) := K1.get (alloc_new _ _) (fun z => z)
  have d5 := cell_blk bb 5 (v := .slice va vn vc) rfl
  have KE := K0.out.trans K1 (fun _ _ z => z)
  clear K1 bb CF
  by_cases h1 : f = 1
  · subst h1
    have A : v = t1 := by rw [HV.out]; simp
    subst A
    clear HV
    go_wp2_with fail
    go_ret
    exact ⟨by first | rfl | simp, KE⟩
  · have q1 : (f == 1) = false := by simp [h1]
    by_cases h3 : f = 3
    · subst h3
      have A : v = t1 := by rw [HV.out]; simp
      subst A
      clear HV
      go_wp2_with fail
      go_ret
      exact ⟨by first | rfl | simp, KE⟩
    · have q3 : (f == 3) = false := by simp [h3]
      have A : v = t2 := by rw [HV.out]; simp [h1, h3]
      subst A
      clear HV
      go_wp2_with fail
      go_ret
      exact ⟨by first | rfl | simp, KE⟩
set_option maxRecDepth 100000 in
theorem hStatus (e : Ev) (w : World) : Calls Tryz.prog 59 #[e.agg] w fun o w' => o = .returned (.bool (statusE e)) ∧ Kept (fun _ => False) w w' := by
  obtain ⟨v, hv⟩ : ∃ v, v = statusE e := ⟨_, rfl⟩
  have HV : Hid (v = statusE e) := hv
  rw [← hv]
  clear hv
  obtain ⟨ki, cl, op, pu, ke, va, vn, vc, st, tx, ty, vl⟩ := e
  unfold Ev.agg
  unfold statusE at HV
  dsimp only at HV ⊢
  obtain ⟨t1, e1⟩ : ∃ t, decide (20 ≤ st) = t := ⟨_, rfl⟩
  obtain ⟨t2, e2⟩ : ∃ t, decide (st ≤ 26) = t := ⟨_, rfl⟩
  rw [e1, e2] at HV
  go_enter Tryz.func59, Tryz.ntmps59
  by_cases h : st = 0
  · subst h
    have A : v = true := by rw [HV.out]; simp
    subst A
    clear HV
    go_wp2_with fail
    go_ret
    exact ⟨by first | rfl | simp, (Kept.refl _ _).alloc _⟩
  · have q0 : (st == 0) = false := by simp [h]
    by_cases h2 : ki = 2
    · subst h2
      cases pu
      · by_cases h7 : st = 76
        · subst h7
          have A : v = true := by rw [HV.out]; simp
          subst A
          clear HV
          go_wp2_with fail
          go_ret
          exact ⟨by first | rfl | simp, (Kept.refl _ _).alloc _⟩
        · have q7 : (st == 76) = false := by simp [h7]
          cases t1
          · have A : v = false := by rw [HV.out]; simp [h, h7]
            subst A
            clear HV
            go_wp2_with fail
            go_ret
            exact ⟨by first | rfl | simp, (Kept.refl _ _).alloc _⟩
          · have A : v = t2 := by rw [HV.out]; simp [h, h7]
            subst A
            clear HV
            go_wp2_with fail
            go_ret
            exact ⟨by first | rfl | simp, (Kept.refl _ _).alloc _⟩
      · obtain ⟨t4, e4⟩ : ∃ t, (st == 42) = t := ⟨_, rfl⟩
        have A : v = t4 := by
          rw [HV.out, ← e4]
          simp [h]
          rfl
        subst A
        clear HV
        go_wp2_with fail
        go_ret
        exact ⟨by first | rfl | simp, (Kept.refl _ _).alloc _⟩
    · have q2 : (ki == 2) = false := by simp [h2]
      have A : v = false := by rw [HV.out]; simp [h, h2]
      subst A
      clear HV
      go_wp2_with fail
      go_ret
      exact ⟨by first | rfl | simp, (Kept.refl _ _).alloc _⟩
end Go.Proofs.YtbangbobfeflcaaGreatDoor
